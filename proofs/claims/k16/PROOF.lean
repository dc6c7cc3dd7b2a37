import PyProof.Rows.All
import Wide.All
import OpenK.AllK
import Wide.FinOn
import HandS.ForMost
import HandS.ForExc
import HandS.Head2
import HandS.HeadEnd
import HandS.HeadHook2
import HandS.ExcInit
import HandS.ExcField
import HandS.ExcIs
import HandS.ExcValue
import HandS.IsInst
import HandS.Defaults
import HandS.Flow
import KE.KExcInit
import KE.KExcIs
import KE.KTryMore
import HandS.Walk
import HandS.CallSlots
import HandS.Text
import HandS.Replace
import KE.GoesEnum
import HandS.Set
import HandS.SetFor
import HandS.Strs
import PyProof.Rows.SortStr
import HandS.Deep
import HandS.TupAny
import HandS.Style
import HandS.Zip
import HandS.SortKw
import KE.KDictZip
import HandS.TryOnly
import PySem.Challenge.RW_pathbook_k16_whole_what_legs_pass
set_option Elab.async false
set_option linter.all false
set_option maxRecDepth 100000
set_option maxHeartbeats 0
namespace Pb
open PySem PySem.Spec PyProof.Rows L2
theorem dv (j : Int) (h : 0 < j := by decide) : 0 < j := h
theorem same_upd {H : Hp} {p : Addr} {o : HO} (h : H p = none) : Same H (upd H p o) := fun b x e => by
  rw [upd_ne (ne_of_none e h)]
  exact e
/-! ### two lists put together, the left one perhaps only to be read -/
section
variable {X : Cx}
def rCatS (K : PySem.W.Frag) : R2 := fun x y H Q => ∃ l b xs zs, x = .ref l ∧ y = .ref b ∧ SqL K H l xs ∧ SqL K H b zs ∧ xs.length + zs.length ≤ sizeLine ∧
  ∀ p, H p = none → Q (.ref p) (upd H p (.lst (xs ++ zs)))
theorem op_catS : OpR X (binaryOp .Add) (rCatS X.K) := by
  intro pins s σ H x y v u Q I rx ry hyp
  obtain ⟨l, b, xs, zs, ex, ey, hL, hB, hz, q⟩ := hyp
  subst ex ey
  cases rx; cases ry
  obtain ⟨i1, r1, ⟨o1, n1, g1, c1, d1, e1⟩, s1⟩ := I.list hL
  obtain ⟨i2, r2, ⟨o2, n2, g2, c2, d2, e2⟩, s2⟩ := I.list hB
  obtain ⟨k1, dd1, da1, sl1⟩ := o1
  obtain ⟨k2, dd2, da2, sl2⟩ := o2
  dsimp only at c1 d1 e1 c2 d2 e2
  subst c1 d1 e1 c2 d2 e2
  have l1 := r1.length
  have l2 := r2.length
  have ea : i1.toArray ++ i2.toArray = (i1 ++ i2).toArray := by simp
  have hs : i1.toArray.size + i2.toArray.size ≤ sizeLine := by simp; omega
  refine concat_meets ⟨_, g1, rfl⟩ ⟨_, g2, rfl⟩ noFill_list_add seq_list_add PySem.F.slot_list_add PySem.F.entry_list_add
    (PySem.F.args_list_add_2 _ _) (list_addW l b i1.toArray i2.toArray n1 n2 none none sl1 sl2 hs) ⟨g1, g2, ?_⟩
  rw [ea]
  exact ⟨.ref _, _, I.lnew (t' := s.toks) (r1.append r2) (by rw [List.length_append]; omega), rfl, q _ I.fresh⟩
end
end Pb

/-! ### an own exception class, over any built-in one, made with keywords too -/
namespace Pb
open PySem PySem.W Builtin Builtin.ObjectAttr
section
variable {M : Model} {prog : Program} {w : World} {A : Around} {E : Value → Shared → Prop} {R : Result → Shared → Prop} {h : Heap} {g : Array GenState} {d : Drawn} {t : Nat} {os : OsState}
variable {nm q : Str} {C N : Addr} {bs bm bmB : List Value} {hdct : Bool} {sn : List Str} {sub : List Value} {ab : Bool} {col : Option Bool} {dd : Option Addr} {k0 k1 k2 k3 k5 : Option Value} {B newId initId : String}
abbrev HasT (bm bmB : List Value) : Prop := ∀ T : String, bm.contains (.type T) = bmB.contains (.type T)
theorem kwNewCheck (FB : ExcBaseFacts B newId initId bmB) (hT : HasT bm bmB) {rest : List Value} {kw : List (Str × Value)} {Q : Unit → Shared → Prop}
    (hC : h.get? C = some (excClassObj nm q C N bs bm hdct sn sub ab col dd k0 k1 k2 k3 k5 newId)) (fin : Q () ⟨h, g, d, t, os⟩) :
    wpAny M A (checkBuiltinCall newId ⟨.ref C :: rest, kw⟩) Q E ⟨h, g, d, t, os⟩ := by
  have c1 : (Value.ref C :: bm).contains (.type B) = true := by
    rw [List.contains_cons, hT, FB.hasB, Bool.or_true]
  have c2 := FB.noStar
  simp only [checkBuiltinCall, FB.newKind, FB.newSplit, FB.newRow]
  repeat (first
    | refine wpAny_loadPart_at hC ?_
    | (refine wpAny_isSubtype_exc hC ?_; rw [c1])
    | refine wpAny_staticBase_exc hC ?_
    | refine wpAny_madeBy_exc hC ?_
    | simp only [bne_self_eq_false, Bool.false_eq_true, if_false]
    | wp_step)
  exact fin
theorem kwNew (FB : ExcBaseFacts B newId initId bmB) (hT : HasT bm bmB) {rest : List Value} {kw : List (Str × Value)}
    (hC : h.get? C = some (excClassObj nm q C N bs bm hdct sn sub ab col dd k0 k1 k2 k3 k5 newId)) (hz : rest.length ≤ sizeLine)
    (fin : R (.ok (.ret (.ref (h.objs.size + 1)))) ⟨(h.push (kdv_tup rest)).push (HandSPX.excO C h.objs.size), g, d, t, os⟩) :
    codeAny (model prog w) A (.builtin newId ⟨.ref C :: rest, kw⟩) R ⟨h, g, d, t, os⟩ := by
  have c0 := FB.ends
  have c1 : (Value.ref C :: bm).contains (.type B) = true := by
    rw [List.contains_cons, hT, FB.hasB, Bool.or_true]
  have c2 : (Value.ref C :: bm).contains (.type "AttributeError") = false := by
    rw [List.contains_cons, hT, FB.noAttr]
    rfl
  have c3 : (Value.ref C :: bm).contains (.type "NameError") = false := by
    rw [List.contains_cons, hT, FB.noName]
    rfl
  refine codeAny_builtinAt FB.entry ?_
  unfold Builtin.«BaseException.__new__»
  refine wpAt_bind ?_
  show wpAt _ _ _ (stack >>= _) _ _ _
  refine wpAt_bind (wpAt_stack fun p below => wpAt_of_wpAny ?_)
  wp_walk
  refine wpAt_of_wpAny ?_
  rw [FB.owner]
  repeat (first
    | with_reducible refine wpAny_madeHere_exc FB.canon hC ?_
    | with_reducible refine wpAny_loadPart_at hC ?_
    | (with_reducible refine wpAny_isSubtype_exc hC ?_; first | rw [c1] | rw [c2] | rw [c3])
    | wp_step)
  show R _ _
  rw [Heap.size_push]
  exact fin
theorem kwTypeCall (FB : ExcBaseFacts B newId initId bmB) (hT : HasT bm bmB) {rest : List Value} {kw : List (Str × Value)} {fI : Addr} {Q : Fin → Shared → Prop}
    (hC : h.get? C = some (excClassObj nm q C N bs bm hdct sn sub ab col dd k0 k1 k2 k3 k5 newId))
    (hi : Looks (model prog w) h (typeLookup (.ref C) "__init__") (some (.ref fI))) (hb : ∀ self, Looks (model prog w) h (bindSpecial (.ref fI) self) (.ref fI, [self])) (hz : rest.length ≤ sizeLine)
    (body : codeAny (model prog w) A (.call (.ref fI) ⟨.ref (h.objs.size + 1) :: rest, kw⟩)
      (fun r s' => match r with | .ok (.ret v) => v = .none ∧ Q (.done (.ret (.ref (h.objs.size + 1)))) s' | .ok _ => False | .error e => E e s')
      ⟨(h.push (kdv_tup rest)).push (HandSPX.excO C h.objs.size), g, d, t, os⟩) :
    wpAny (model prog w) A (Builtin.«type.__call__» ⟨.ref C :: rest, kw⟩) Q E ⟨h, g, d, t, os⟩ := by
  repeat (first
    | with_reducible refine wpAny_loadPart_at hC ?_
    | with_reducible refine wpAny_madeBy_exc hC ?_
    | wp_step)
  refine codeAny_call_builtin_code (Code.quiet_builtin _ FB.quiet) (kwNewCheck FB hT hC ?_)
  refine kwNew FB hT hC hz ?_
  show wpAny _ _ _ _ _ _
  have kp : ∀ b o, h.get? b = some o → ((h.push (kdv_tup rest)).push (HandSPX.excO C h.objs.size)).get? b = some o :=
    fun b o e => Heap.get?_push_of_some _ (Heap.get?_push_of_some _ e)
  have hC2 := kp _ _ hC
  have hE : ((h.push (kdv_tup rest)).push (HandSPX.excO C h.objs.size)).get? (h.objs.size + 1) = some (HandSPX.excO C h.objs.size) := by heap_get
  have cc : (Value.ref C :: bm).contains (.ref C) = true := by simp
  have j1 := hi.keeps kp
  have j2 := (hb (.ref (h.objs.size + 1))).keeps kp
  unfold isInstance
  repeat (first
    | with_reducible refine wpAny_loadPart_at hE ?_
    | (with_reducible refine wpAny_isSubtype_exc hC2 ?_; rw [cc])
    | wp_step)
  show wpAny _ _ (typeLookup (.ref C) _) _ _ _
  refine j1.at ?_
  refine wpAny_holding (wpAny_bind (j2.at ?_))
  refine wpAny_bind (wpAny_call (codeAny_mono body fun r s' z => ?_))
  rcases r with e | (v | _ | _ | _) <;> first | exact z | exact z.elim | skip
  obtain ⟨ev, z⟩ := z
  subst ev
  first
    | exact wpAny_pure (wpAny_pure z)
    | (wp_walk; exact z)
theorem kwCall (FB : ExcBaseFacts B newId initId bmB) (hT : HasT bm bmB) {rest : List Value} {kw : List (Str × Value)} {fI : Addr}
    (hC : h.get? C = some (excClassObj nm q C N bs bm hdct sn sub ab col dd k0 k1 k2 k3 k5 newId))
    (hi : Looks (model prog w) h (typeLookup (.ref C) "__init__") (some (.ref fI))) (hb : ∀ self, Looks (model prog w) h (bindSpecial (.ref fI) self) (.ref fI, [self])) (hz : rest.length ≤ sizeLine)
    (body : codeAny (model prog w) (A.under (.builtin "type.__call__" ⟨.ref C :: rest, kw⟩)) (.call (.ref fI) ⟨.ref (h.objs.size + 1) :: rest, kw⟩) (InitBack (h.objs.size + 1) R)
      ⟨(h.push (kdv_tup rest)).push (HandSPX.excO C h.objs.size), g, d, t, os⟩) :
    codeAny (model prog w) A (.call (.ref C) ⟨rest, kw⟩) R ⟨h, g, d, t, os⟩ := by
  have y1 := tc_lookup
  have y2 := tc_bind (.ref C)
  have y3 : (⟨h, g, d, t, os⟩ : Shared).TypeIs (.ref C) "type" := ⟨_, hC, rfl⟩
  refine codeAny_of_tree ?_
  show wpAny _ _ (callAny (.ref C) _) _ _ _
  repeat (any_goals (first | assumption | with_reducible refine wpAny_loadPart_at hC ?_ | wp_step))
  refine ⟨rfl, ?_⟩
  refine codeAny_call_builtin_at (Code.quiet_builtin _ (by decide +kernel)) entry_typeCall (wpAny_check_type_call_sub hC (kwTypeCall FB hT hC hi hb hz ?_))
  refine codeAny_mono body fun r s' z => ?_
  rcases r with e | (v | _ | _ | _) <;> exact z
end
end Pb

namespace Pb
open PySem PySem.W PyProof.Rows L2
/-- a built-in class that own exceptions stand under -/
structure XB (bmB : List Value) (newId : String) : Prop where
  ex : ∃ B initId, ExcBaseFacts B newId initId bmB ∧ StoreFacts B bmB "object.__setattr__" "object"
abbrev mroV : List Value := [.type "ValueError", .type "Exception", .type "BaseException", .type "object"]
abbrev mroL : List Value := [.type "LookupError", .type "Exception", .type "BaseException", .type "object"]
abbrev mroO : List Value := [.type "OverflowError", .type "ArithmeticError", .type "Exception", .type "BaseException", .type "object"]
theorem xbV : XB mroV "ValueError.__new__" := ⟨_, _, PySem.F.excBase_ValueError, PySem.F.store_ValueError⟩
theorem xbL : XB mroL "LookupError.__new__" := ⟨_, _, PySem.F.excBase_LookupError, PySem.F.store_LookupError⟩
theorem xbO : XB mroO "OverflowError.__new__" := ⟨_, _, PySem.F.excBase_OverflowError, PySem.F.store_OverflowError⟩
/-- what the written part says of an own exception class -/
structure XC (K : Frag) (C : Addr) (bmB : List Value) (newId : String) : Prop where
  ini : excInitIn K C bmB newId = true
  ovr : excOver K C bmB = true
  dic : hasDictIn K C = true
  sa : findIn K (.ref C) "__setattr__" = some (some (.builtin "object.__setattr__"))
  ga : findIn K (.ref C) "__getattribute__" = some (some (.builtin "BaseException.__getattribute__"))
  gg : findIn K (.ref C) "__getattr__" = some none
  cl : findIn K (.ref C) "__class__" = some (some (.builtin "object.__class__"))
  sub : subIn K (.ref C) (.type "BaseException") = some true
  ty : typeIn K (.ref C) = some (.type "type")
  kp : keepIn K (.ref C) = true
  ob : mroIn K C (.type "object") = some true
  sg : specialIn K (.builtin "object.__class__") "__get__" = some (some (.builtin "getset_descriptor.__get__"))
  tk : takesIn K (.builtin "object.__class__") = some true
def xcB (K : Frag) (C : Addr) (bmB : List Value) (newId : String) : Bool :=
  excInitIn K C bmB newId && (excOver K C bmB && (hasDictIn K C && (decide (findIn K (.ref C) "__setattr__" = some (some (.builtin "object.__setattr__"))) &&
  (decide (findIn K (.ref C) "__getattribute__" = some (some (.builtin "BaseException.__getattribute__"))) && (decide (findIn K (.ref C) "__getattr__" = some none) &&
  (decide (findIn K (.ref C) "__class__" = some (some (.builtin "object.__class__"))) && (decide (subIn K (.ref C) (.type "BaseException") = some true) &&
  (decide (typeIn K (.ref C) = some (.type "type")) && (keepIn K (.ref C) && (decide (mroIn K C (.type "object") = some true) &&
  (decide (specialIn K (.builtin "object.__class__") "__get__" = some (some (.builtin "getset_descriptor.__get__"))) && decide (takesIn K (.builtin "object.__class__") = some true))))))))))))
theorem xcB_ok {K : Frag} {C : Addr} {bmB : List Value} {newId : String} (h : xcB K C bmB newId = true) : XC K C bmB newId := by
  unfold xcB at h
  simp only [Bool.and_eq_true, decide_eq_true_eq] at h
  obtain ⟨h1, h2, h3, h4, h5, h6, h7, h8, h9, h10, h11, h12, h13⟩ := h
  exact ⟨h1, h2, h3, h4, h5, h6, h7, h8, h9, h10, h11, h12, h13⟩
section
variable {prog : Program} {w : World} {A : Around} {E : Value → Shared → Prop} {R : Result → Shared → Prop} {hp : Heap} {g : Array GenState} {d : Drawn} {t : Nat} {os : OsState} {K : Frag} {C x : Addr} {bmB : List Value} {newId : String} {name : Str} {tk : Tok} {v : Value}
theorem taker0 (ha : findIn K (.ref C) name = some none) : takerIn K C name = some none := by
  unfold takerIn
  rw [ha]
  rfl
/-- the first field of an exception -/
theorem xset_new {fv : Array Value} (B : XB bmB newId) (T : XC K C bmB newId) (X : K.In hp) (hx : hp.get? x = some { cls := .ref C, data := .fields fv }) (ha : findIn K (.ref C) name = some none)
    (fin : ∀ h' tk' dx, (∀ b o, b ≠ x → hp.get? b = some o → h'.get? b = some o) → hp.objs.size ≤ dx → dx ≠ x → h'.get? x = some { cls := .ref C, dict := some dx, data := .fields fv } →
      h'.Ns1 dx (fun y => if y = name then some v else none) → R (.ok (.ret .none)) ⟨h', g, d, tk', os⟩) :
    codeAny (model prog w) A (.call (.builtin "object.__setattr__") ⟨[.ref x, .str name tk, v], []⟩) R ⟨hp, g, d, t, os⟩ := by
  obtain ⟨Bn, ii, FB, SF⟩ := B.ex
  have xs : x ≠ hp.objs.size := Nat.ne_of_lt (Heap.lt_size hx)
  obtain ⟨cd, hcd, hdd⟩ := any_some T.dic
  have lk : Looks (model prog w) hp (classData C) cd := looks_clsIn X hcd
  refine osa_openX (s := ⟨hp, g, d, t, os⟩) (od := none) SF X ⟨hx, rfl, rfl, trivial⟩ T.ovr (taker0 ha) fun b => ?_
  obtain ⟨m1, m2, m3, m4, m5, m6, m7, m8, m9, m10, m11⟩ := cd
  dsimp only at hdd
  subst hdd
  dsimp only
  unfold Builtin.ObjectAttr.storeInOwnDict Builtin.ObjectAttr.ownDictForStores
  repeat (first
    | with_reducible refine HandSPX.store_in_new ?_ ?_
    | with_reducible refine wpAny_loadPart_at hx ?_
    | with_reducible refine lk.at ?_
    | wp_step)
  · exact ⟨_, #[], _, (Heap.get?_update_ne _ _ _ _ xs.symm).trans (Heap.get?_push_at rfl rfl), rfl, fun e he => absurd he (by simp), fun _ => rfl⟩
  · intro h' tk' hn sb
    have hx2 : (hp.push { cls := .type "dict", data := .dict #[] }).get? x = some { cls := .ref C, data := .fields fv } := Heap.get?_push_of_some _ hx
    refine fin h' tk' hp.objs.size (fun b o hb ho => ?_) (Nat.le_refl _) xs.symm ?_ hn
    · exact (sb.2 b (Nat.ne_of_lt (Heap.lt_size ho))).trans ((Heap.get?_update_ne _ _ _ _ hb).trans (Heap.get?_push_of_some _ ho))
    · exact (sb.2 x xs).trans (Heap.get?_update_self _ hx2 rfl)
/-- a further field -/
theorem xset_old {fv : Array Value} {dx : Addr} {m0 : Str → Option Value} {nl : List Str} (B : XB bmB newId) (T : XC K C bmB newId) (X : K.In hp) (hx : hp.get? x = some { cls := .ref C, dict := some dx, data := .fields fv })
    (hns : hp.Ns1 dx m0) (hw : Within m0 nl) (hz : nl.length ≤ 1000) (ha : findIn K (.ref C) name = some none)
    (fin : ∀ h' tk', (∀ b o, b ≠ dx → hp.get? b = some o → h'.get? b = some o) → h'.Ns1 dx (fun y => if y = name then some v else m0 y) → R (.ok (.ret .none)) ⟨h', g, d, tk', os⟩) :
    codeAny (model prog w) A (.call (.builtin "object.__setattr__") ⟨[.ref x, .str name tk, v], []⟩) R ⟨hp, g, d, t, os⟩ := by
  obtain ⟨Bn, ii, FB, SF⟩ := B.ex
  obtain ⟨oD, esD, epD, hoD, hdD, _⟩ := hns.count hw
  obtain ⟨cd, hcd, hdd⟩ := any_some T.dic
  have lk : Looks (model prog w) hp (classData C) cd := looks_clsIn X hcd
  refine osa_openX (s := ⟨hp, g, d, t, os⟩) (od := some oD) SF X ⟨hx, rfl, rfl, hoD⟩ T.ovr (taker0 ha) fun b => ?_
  obtain ⟨m1, m2, m3, m4, m5, m6, m7, m8, m9, m10, m11⟩ := cd
  dsimp only at hdd
  subst hdd
  dsimp only
  unfold Builtin.ObjectAttr.storeInOwnDict Builtin.ObjectAttr.ownDictForStores
  repeat (first
    | with_reducible refine OEX.store_in_old hns hw hz ?_
    | with_reducible refine wpAny_loadPart_at hx ?_
    | with_reducible refine lk.at ?_
    | wp_step)
  intro h' tk' hn sb
  exact fin h' tk' (fun b o hb ho => (sb.2 b hb).trans ho) hn
end
section
variable {X : Cx} {pins : List (Addr × Obj)} {σ : L2.St} {H : Hp} {s : Shared} {a C dx : Addr} {f : Str} {y : V} {u : Value} {fs : List (Str × V)} {Q : Unit → Shared → Prop} {E : Value → Shared → Prop} {A : Around} {bmB : List Value} {newId : String}
theorem xst_new (B : XB bmB newId) (T : XC X.K C bmB newId) (I : Inv X pins σ H s) (e : H a = some (exo a C none)) (hno : findIn X.K (.ref C) f = some none) (ry : RelV y u)
    (fin : ∀ dx s', H dx = none → dx ≠ a → Inv X pins σ (upd (upd H dx (exd dx [(f, y)])) a (exo a C (some dx))) s' → Q () s') : wpAny (model X.prog X.w) A (setAttr (.ref a) f u) Q E s := by
  obtain ⟨t1, ho⟩ := exo_at I.hok e
  obtain ⟨hp, g, d, t, os⟩ := s
  refine set_plain I.kIn (ox := { cls := .ref C, dict := none, data := .fields #[.ref t1, .none, .none, .none, .bool false, .none] }) (od := none) ⟨ho, rfl, rfl, trivial⟩ T.sa ?_
  refine xset_new B T I.kIn ho hno (fun h' tk' dx k dn dne hx hn => ?_)
  have fr : H dx = none := I.hok.fresh dn
  have nd : ∀ {b : Addr} {o : Obj}, hp.get? b = some o → b ≠ dx := fun {b o} z => Nat.ne_of_lt (Nat.lt_of_lt_of_le (Heap.lt_size z) dn)
  have na : ∀ {b : Addr}, H b = none → b ≠ a := fun {b} n z => by
    rw [z, e] at n
    cases n
  have UU : Un X.fs [] H (upd (upd H dx (exd dx [(f, y)])) a (exo a C (some dx))) hp h' :=
    { keep := fun b o z n _ _ => k b o (na n) z
      slot := fun b o z n _ _ => ⟨o.slots, k b o (na n) z⟩
      free := fun b o z n _ => by
        rw [upd_ne (na n), upd_ne (nd z)]
        exact n
      there := fun b o z _ => by
        by_cases hb : b = a
        · exact ⟨_, by rw [hb]; exact hx⟩
        · exact ⟨o, k b o hb z⟩
      tups := fun b xs z => by
        rw [upd_ne (at_ne e z exo_tup), upd_ne (ne_of_none z fr)]
        exact z
      frzs := fun b o v z => by
        rw [upd_ne (at_ne e z exo_frz), upd_ne (ne_of_none z fr)]
        exact z
      tbls := fun b ps z => ⟨#[], by rw [upd_ne (at_ne e z exo_tbl), upd_ne (ne_of_none z fr), z]; simp⟩ }
  refine fin dx _ fr dne (I.un (t' := tk') UU fun b o z => ?_)
  by_cases hb : b = a
  · subst hb
    rw [upd_same] at z
    cases z
    exact exo_ok hx
  · rw [upd_ne hb] at z
    by_cases hd : b = dx
    · subst hd
      rw [upd_same] at z
      cases z
      exact exd_ok hn (relO_put (fs := []) ry fun g => True.intro)
    · rw [upd_ne hd] at z
      refine (I.hok b o z).stay (fun c v hc r => k c v ?_ r) (fun c hc => ?_) (fun c xs hc => ?_)
      · rcases hc with hc | hc
        · rw [hc]
          exact hb
        · exact at_ne e hc exo_own
      · rw [upd_ne (at_ne e hc exo_own), upd_ne (ne_of_none hc fr)]
        exact hc
      · rw [upd_ne (at_ne e hc exo_tup), upd_ne (ne_of_none hc fr)]
        exact hc
theorem xst_old (B : XB bmB newId) (T : XC X.K C bmB newId) (I : Inv X pins σ H s) (e : H a = some (exo a C (some dx))) (ed : H dx = some (exd dx fs)) (hl : fs.length ≤ 900) (hno : findIn X.K (.ref C) f = some none) (ry : RelV y u)
    (fin : ∀ s', Inv X pins σ (upd H dx (exd dx ((f, y) :: fs))) s' → Q () s') : wpAny (model X.prog X.w) A (setAttr (.ref a) f u) Q E s := by
  obtain ⟨t1, ho⟩ := exo_at I.hok e
  obtain ⟨mA, hns, rel⟩ := exd_at I.hok ed
  have hw := within_of rel
  obtain ⟨hp, g, d, t, os⟩ := s
  obtain ⟨oD, _, _, hoD, _, _⟩ := hns.count hw
  refine set_plain I.kIn (ox := { cls := .ref C, dict := some dx, data := .fields #[.ref t1, .none, .none, .none, .bool false, .none] }) (od := some oD) ⟨ho, rfl, rfl, hoD⟩ T.sa ?_
  refine xset_old B T I.kIn ho hns hw (by rw [List.length_map]; omega) hno (fun h' tk' k hn => ?_)
  have hd : ∃ o, h'.get? dx = some o := by
    obtain ⟨o, _, _, e', _⟩ := hn
    exact ⟨o, e'⟩
  exact fin _ (I.write (t' := tk') (x := dx) (e := dx) (o := exd dx ((f, y) :: fs)) (by rw [ed]; exact True.intro) (.inl rfl) k hd (exd_ok hn (relO_put ry rel)))
end
/-- self.f = e, self an exception -/
def tXst (K : Frag) (f : Str) (to te : TE) : TS := fun D σ H => te σ H fun y H1 => to σ H1 fun x H2 => ∃ (a C : Addr) (bmB : List Value) (newId : String), x = .ref a ∧ XB bmB newId ∧ XC K C bmB newId ∧ findIn K (.ref C) f = some none ∧
  ((H2 a = some (exo a C none) ∧ ∀ dx, H2 dx = none → dx ≠ a → D.nx σ (upd (upd H2 dx (exd dx [(f, y)])) a (exo a C (some dx)))) ∨
    ∃ (dx : Addr) (fs : List (Str × V)), H2 a = some (exo a C (some dx)) ∧ H2 dx = some (exd dx fs) ∧ fs.length ≤ 900 ∧ D.nx σ (upd H2 dx (exd dx ((f, y) :: fs))))
/-- C(..), C an own exception class with an __init__ of its own: a new exception -/
def tXnew (C : Addr) (n m : Nat) (sp : Sp) (gV : List V → List V → List V) (t tk : TA) : TE := fun σ H Q => t σ H fun vs H1 => tk σ H1 fun zs H2 => vs.length = n ∧ zs.length = m ∧ n ≤ 1000 ∧
  ∀ a, H2 a = none → sp (gV (.ref a :: vs) zs) (upd H2 a (exo a C none)) (fun v H3 => v = .non ∧ Q (.ref a) H3) (fun _ _ _ => False)
section
variable {X : Cx} {o e : Expr} {es : List Expr} {kws : List Keyword} {to te : TE} {t tk : TA} {f : Str} {p p' p1 p2 pos : Pos} {bmB : List Value} {newId : String}
theorem ps_xst (ho : PE X o to) (he : PE X e te) (hs : swapsWith e (some (.Attribute o f p')) pos.line X.env = pure false := by rfl) : PS X (.Assign [.Attribute o f p'] e pos) (tXst X.K f to te) := by
  refine ⟨fun pins s σ H D I h => ?_⟩
  refine plainObj_wpAny_Assign_Attribute (thn (he.run pins s σ H _ I h) fun v s1 z => ?_) hs
  obtain ⟨y, H1, I1, r1, q1⟩ := z
  refine thn (ho.run pins s1 σ H1 _ I1 q1) fun u s2 z2 => ?_
  obtain ⟨x, H2, I2, r2, a, C, bb, nn, ex, B, T, hno, q⟩ := z2
  subst ex
  cases (show u = Value.ref a from r2)
  rcases q with ⟨ea, q⟩ | ⟨dx, fs, ea, ed, hl, q⟩
  · exact xst_new B T I2 ea hno r1 fun dx s' n ne J => ⟨σ, _, J, q dx n ne⟩
  · exact xst_old B T I2 ea ed hl hno r1 fun s' J => ⟨σ, _, J, q⟩
variable {CX : CXT} {x : Str} {C fI : Addr} {k n : Nat} {fd : FuncData} {ps ks : List Str} {sp : Sp} {gg : List Value → List Value → List Value} {gV : List V → List V → List V}
theorem xnew_run {pins : List (Addr × Obj)} {σ : L2.St} {H : Hp} {s : Shared} {Q : VK} {us ws : List Value} {vs zs : List V} (B : XB bmB newId) (T : XC X.K C bmB newId) (iC : findIn X.K (.ref C) "__init__" = some (some (.ref fI))) (tI : typeIn X.K (.ref fI) = some (.type "function"))
    (F1 : FnOk X.prog X.w X.K X.mg X.base CX k fI fd ps sp) (hr : Room (k + 1) X.A) (hb : KBn X.K fd ps (n + 1) ks gg gV) (hx : Passes CX X (fun _ _ _ => False)) (I1 : Inv X pins σ H s) (r1 : Vals vs us) (rz : Vals zs ws) (l1 : vs.length = n) (l2 : zs.length = ks.length) (hz : n ≤ 1000)
    (q1 : ∀ a, H a = none → sp (gV (.ref a :: vs) zs) (upd H a (exo a C none)) (fun v H3 => v = .non ∧ Q (.ref a) H3) (fun _ _ _ => False)) :
    wpAny (model X.prog X.w) X.A (call (.ref C) us (ks.zip ws)) (EP X pins σ Q) X.xe s := by
  obtain ⟨Bn, ii, FB, SF⟩ := B.ex
  obtain ⟨nm, N', qn, bs, bm, hdct, sn, sub, ab, col, dd, k0, k1, k2, k3, k5, hC, hT⟩ := excInit_of I1.kIn T.ini
  obtain ⟨hp, g, dr, tk, os⟩ := s
  have sz : hp.objs.size ≤ hp.objs.size + 1 := Nat.le_succ _
  have hn : H (hp.objs.size + 1) = none := I1.hok.fresh sz
  have hq := q1 (hp.objs.size + 1) hn
  have kk : ∀ b o, hp.get? b = some o → ((hp.push (kdv_tup us)).push (HandSPX.excO C hp.objs.size)).get? b = some o := fun b o e => Heap.get?_push_of_some _ (Heap.get?_push_of_some _ e)
  have hget : ((hp.push (kdv_tup us)).push (HandSPX.excO C hp.objs.size)).get? (hp.objs.size + 1) = some (HandSPX.excO C hp.objs.size) := by heap_get
  have I2 : Inv X pins σ (upd H (hp.objs.size + 1) (exo (hp.objs.size + 1) C none)) ⟨(hp.push (kdv_tup us)).push (HandSPX.excO C hp.objs.size), g, dr, tk, os⟩ :=
    I1.laid (t' := tk) (a := hp.objs.size + 1) (o := exo (hp.objs.size + 1) C none) (h' := (hp.push (kdv_tup us)).push (HandSPX.excO C hp.objs.size)) kk sz (exo_ok hget)
  have e1 : us.length = n := r1.length.symm.trans l1
  have e2 : ws.length = ks.length := rz.length.symm.trans l2
  have r2 := hb.rel (Paired.cons (show RelV (V.ref (hp.objs.size + 1)) (Value.ref (hp.objs.size + 1)) from rfl) r1) rz
  have hus : us.length ≤ sizeLine := by rw [e1, sizeLine_eq]; omega
  refine wpAny_call (kwCall FB hT hC (looks_findIn I1.kIn iC) (fun self => bind_fn I1.kIn self tI) hus
    (codeAny_mono (F1.run _ X.stack _ _ ⟨Value.ref (hp.objs.size + 1) :: us, ks.zip ws⟩ (gg (Value.ref (hp.objs.size + 1) :: us) ws) _ _ (fun _ _ _ => False) (hr.make C us (ks.zip ws)) (I2.env0.make C us (ks.zip ws))
      (hb.to _ (Value.ref (hp.objs.size + 1) :: us) ws I2.kIn (by rw [List.length_cons, e1]) e2) r2 hq) fun r s' hq' => ?_))
  cases r with
  | error er => exact hx pins σ _ _ er s' I2 hq'
  | ok fl =>
    cases fl with
    | ret u =>
      obtain ⟨v, H3, I3, rv, ev, q3⟩ := I2.after hq'
      subst ev
      exact ⟨rv, ⟨V.ref (hp.objs.size + 1), H3, I3, rfl, q3⟩⟩
    | next => exact False.elim hq'
    | brk => exact False.elim hq'
    | cont => exact False.elim hq'
/-- C(e, ..) -/
theorem pe_xnew (B : XB bmB newId) (T : XC X.K C bmB newId) (iC : findIn X.K (.ref C) "__init__" = some (some (.ref fI))) (tI : typeIn X.K (.ref fI) = some (.type "function"))
    (F1 : FnOk X.prog X.w X.K X.mg X.base CX k fI fd ps sp) (hr : Room (k + 1) X.A) (hb : KBn X.K fd ps (n + 1) [] gg gV) (hx : Passes CX X (fun _ _ _ => False)) (hg : Gl X x) (hm : X.mg x = some (.ref C)) (ha : PA X (e :: es) t)
    (hdb : (x == ("__debug__" : Str)) = false := by decide) (he : starEach (e :: es) X.env = (false, eval e X.env) :: starEach es X.env := by rfl) (hpl : (backTo pos (starEach es X.env)).any (·.1) = false := by rfl) :
    PE X (.Call (.Name x p) (e :: es) [] pos) (tXnew C n 0 sp gV t tNil) := by
  refine ⟨fun pins s σ H Q I h => ?_⟩
  refine wpAny_Call_Name_kw (ld_glob I hg hm ?_ hdb)
  refine callWith_K (h₀ := X.base) I.ok.mod.kin T.kp (thn (ha.run pos pins s σ H _ I h) fun us s1 z => ?_) he hpl
  obtain ⟨vs, H1, I1, r1, l1, l2, hz, q1⟩ := z
  exact ⟨I1.kIn, xnew_run (ks := []) (ws := []) (zs := []) B T iC tI F1 hr hb hx I1 r1 .nil l1 rfl hz q1⟩
/-- C() -/
theorem pe_xnew0 (B : XB bmB newId) (T : XC X.K C bmB newId) (iC : findIn X.K (.ref C) "__init__" = some (some (.ref fI))) (tI : typeIn X.K (.ref fI) = some (.type "function"))
    (F1 : FnOk X.prog X.w X.K X.mg X.base CX k fI fd ps sp) (hr : Room (k + 1) X.A) (hb : KBn X.K fd ps 1 [] gg gV) (hx : Passes CX X (fun _ _ _ => False)) (hg : Gl X x) (hm : X.mg x = some (.ref C))
    (hdb : (x == ("__debug__" : Str)) = false := by decide) : PE X (.Call (.Name x p) [] [] pos) (tXnew C 0 0 sp gV tNil tNil) := by
  refine ⟨fun pins s σ H Q I h => ?_⟩
  refine wpAny_Call_Name_kw (ld_glob I hg hm ?_ hdb)
  obtain ⟨l1, l2, hz, q1⟩ := h
  exact callWith_K0 I.kIn T.kp (xnew_run (ks := []) (ws := []) (zs := []) (us := []) (vs := []) (n := 0) B T iC tI F1 hr hb hx I .nil .nil rfl rfl hz q1)
/-- C(k = e, ..) -/
theorem pe_xnewK (B : XB bmB newId) (T : XC X.K C bmB newId) (iC : findIn X.K (.ref C) "__init__" = some (some (.ref fI))) (tI : typeIn X.K (.ref fI) = some (.type "function"))
    (F1 : FnOk X.prog X.w X.K X.mg X.base CX k fI fd ps sp) (hr : Room (k + 1) X.A) (hb : KBn X.K fd ps 1 ks gg gV) (hx : Passes CX X (fun _ _ _ => False)) (hg : Gl X x) (hm : X.mg x = some (.ref C)) (hkw : PK X kws tk)
    (hall : (backToKw pos (keywordEach kws X.env)).all (·.1.isSome) = true := by rfl) (hks : (backToKw pos (keywordEach kws X.env)).filterMap (·.1) = ks := by rfl) (hdb : (x == ("__debug__" : Str)) = false := by decide)
    (hpl : ((backTo pos (starEach [] X.env)).any (·.1) || (backToKw pos (keywordEach kws X.env)).any (·.1.isNone)) = false := by rfl) :
    PE X (.Call (.Name x p) [] kws pos) (tXnew C 0 ks.length sp gV tNil tk) := by
  refine ⟨fun pins s σ H Q I h => ?_⟩
  refine wpAny_Call_Name_kw (ld_glob I hg hm ?_ hdb)
  refine callWith_KW0 (h₀ := X.base) I.ok.mod.kin T.kp hall (thn (hkw.run pos pins s σ H _ I h) fun ws s2 z => ?_) hpl
  obtain ⟨zs, H2, I2, rz, l1, l2, hz, q2⟩ := z
  refine ⟨I2.kIn, ?_⟩
  rw [hks]
  exact xnew_run (us := []) (vs := []) (n := 0) B T iC tI F1 hr hb hx I2 .nil rz rfl l2 hz q2
/-- C(), C without an __init__ of its own -/
theorem pe_xbare {Bn ii : String} (FB : ExcBaseFacts Bn newId ii bmB) (q : excIn X.K C bmB newId = true) (kC : keepIn X.K (.ref C) = true) (hg : Gl X x) (hm : X.mg x = some (.ref C)) (hdb : (x == ("__debug__" : Str)) = false := by decide) :
    PE X (.Call (.Name x p) [] [] pos) (fun σ H Q => ∀ a, H a = none → Q (.ref a) (upd H a (exo a C none))) := by
  refine ⟨fun pins s σ H Q I h => ?_⟩
  refine wpAny_Call_Name_kw (ld_glob I hg hm ?_ hdb)
  refine callWith_K0 I.kIn kC ?_
  show wpAny _ _ (call (.ref C) []) _ _ _
  obtain ⟨bm, N, nm, qn, bs, hdct, sn, sub, ab, col, dd, k0, k1, k2, k3, k5, mN, hC, hN, hni, T⟩ := exc_obj I.kIn q
  refine wpAny_call_exc_subT FB T hC hN hni (fun h' a hm => ?_) (Nat.zero_le _)
  have hn : H a = none := I.hok.gone hm.new
  obtain ⟨t, ht, _, _⟩ := hm.there
  exact ⟨.ref a, upd H a (exo a C none), I.laidN hm.keeps hm.new hn (exo_ok ht), rfl, h a hn⟩
end
end Pb

namespace Pb
open PySem PySem.W PyProof.Rows L2
/-- an exception that was caught and is kept: at a, of the class D, its dict -/
def exk (a : Addr) (D : Value) (d : Option Addr) : HO := .ext fun h => ∃ (oe : Obj) (vs : Array Value), h.get? a = some oe ∧ Zc D d oe ∧ oe.data = .fields vs
/-- an exception of the class at D, made or kept; its fields, if it has any -/
def ExI (H : Hp) (a D : Addr) : Option (List (Str × V)) → Prop
  | none => H a = some (exo a D none) ∨ H a = some (exk a (.ref D) none)
  | some fs => ∃ dx, (H a = some (exo a D (some dx)) ∧ H dx = some (exd dx fs)) ∨ (H a = some (exk a (.ref D) (some dx)) ∧ H dx = some (.xd fs))
theorem exk_ok {P : Program} {w : World} {H : Hp} {h : Heap} {a : Addr} {D : Value} {d : Option Addr} {oe : Obj} {vs : Array Value} (e : h.get? a = some oe) (z : Zc D d oe) (dd : oe.data = .fields vs) : ObjOk P w H h a (exk a D d) :=
  ⟨⟨oe, vs, e, z, dd⟩, ⟨oe, e⟩, fun _ _ ⟨o, v, q, r⟩ k => ⟨o, v, k o q, r⟩⟩
theorem exk_at {P : Program} {w : World} {H : Hp} {h : Heap} {a : Addr} {D : Value} {d : Option Addr} (hok : HOk P w H h) (e : H a = some (exk a D d)) : ∃ (oe : Obj) (vs : Array Value), h.get? a = some oe ∧ Zc D d oe ∧ oe.data = .fields vs := by
  have x : ObjOk P w H h a (.ext fun h => ∃ (oe : Obj) (vs : Array Value), h.get? a = some oe ∧ Zc D d oe ∧ oe.data = .fields vs) := hok a _ e
  exact x.1
theorem exI_inst {P : Program} {w : World} {H : Hp} {h : Heap} {a D : Addr} {fs : Option (List (Str × V))} (hok : HOk P w H h) (x : ExI H a D fs) :
    ∃ ox od, InstAt h a ox D od ∧ ∀ l, fs = some l → ∃ o, od = some o ∧ ∀ n v, l.lookup n = some v → ∃ u, lookIn n o = some (some u) ∧ RelV v u := by
  have fin : ∀ {dx : Addr} {ox : Obj} {vs : Array Value} {l : List (Str × V)} {mA : Str → Option Value}, h.get? a = some ox → ox.cls = .ref D → ox.dict = some dx → ox.data = .fields vs → h.Ns1 dx mA → (∀ f, RelO (l.lookup f) (mA f)) →
      ∃ ox od, InstAt h a ox D od ∧ ∀ l', some l = some l' → ∃ o, od = some o ∧ ∀ n v, l'.lookup n = some v → ∃ u, lookIn n o = some (some u) ∧ RelV v u := fun {dx ox vs l mA} e c dd dt hn rel => by
    obtain ⟨od, ho, hl⟩ := lookIn_ns hn
    refine ⟨ox, some od, ⟨e, c, by unfold notCls; rw [dt], by rw [dd]; exact ho⟩, fun l' el => ⟨od, rfl, fun n v hv => ?_⟩⟩
    cases el
    obtain ⟨u, hu, ru⟩ := RelO.some_of (v := v) (o := mA n) (by rw [← hv]; exact rel n)
    exact ⟨u, by rw [hl, hu], ru⟩
  cases fs with
  | none =>
    rcases x with x | x
    · obtain ⟨t1, e⟩ := exo_at hok x
      exact ⟨_, none, ⟨e, rfl, rfl, trivial⟩, fun l z => by cases z⟩
    · obtain ⟨oe, vs, e, z, dt⟩ := exk_at hok x
      exact ⟨oe, none, ⟨e, z.1, by unfold notCls; rw [dt], by rw [z.2]; trivial⟩, fun l z => by cases z⟩
  | some l =>
    obtain ⟨dx, ⟨x, y⟩ | ⟨x, y⟩⟩ := x
    · obtain ⟨t1, e⟩ := exo_at hok x
      obtain ⟨mA, hn, rel⟩ := exd_at hok y
      exact fin e rfl rfl rfl hn rel
    · obtain ⟨oe, vs, e, z, dt⟩ := exk_at hok x
      obtain ⟨mA, hn, rel⟩ := hok dx _ y
      exact fin e z.1 z.2 dt hn rel
/-- isinstance(e, c) of such an exception, c a class -/
def rIsX (K : Frag) : List V → Hp → VK → Prop := fun xs H Q => ∃ (a D : Addr) (fs : Option (List (Str × V))) (bmB : List Value) (newId : String) (c : V) (cv : Value) (b : Bool),
  xs = [.ref a, c] ∧ ExI H a D fs ∧ XC K D bmB newId ∧ RelV c cv ∧ (∀ u, RelV c u → u = cv) ∧ kitOne K (.ref D) cv = some b ∧ Q (.bl b) H
/-- .. c a tuple of classes -/
def rIsXT (K : Frag) : List V → Hp → VK → Prop := fun xs H Q => ∃ (a D t : Addr) (fs : Option (List (Str × V))) (bmB : List Value) (newId : String) (cs : List V) (cvs : List Value) (b : Bool),
  xs = [.ref a, .ref t] ∧ ExI H a D fs ∧ XC K D bmB newId ∧ SqT K H t cs ∧ (∀ us, Vals cs us → us = cvs) ∧ kitAny K (.ref D) cvs = some b ∧ Q (.bl b) H
section
variable {X : Cx}
theorem xc_cls {K : Frag} {C : Addr} {bmB : List Value} {newId : String} (T : XC K C bmB newId) : (clsIn K C).isSome = true := by
  obtain ⟨cd, h, _⟩ := any_some T.dic
  rw [h]
  rfl
theorem call_isX : CallR X (.builtin "isinstance") (rIsX X.K) := by
  intro pins s σ H xs us Q I r hyp
  obtain ⟨a, D, fs, bmB, newId, c, cv, b, ex, hx, T, _, hcv, e, q⟩ := hyp
  subst ex
  cases r with
  | cons rx rr =>
    cases rr with
    | cons rt rn =>
      cases rn
      cases rx
      have ec := hcv _ rt
      subst ec
      obtain ⟨ox, od, J, _⟩ := exI_inst I.hok hx
      exact kia_one (kitx_exc (xc_cls T) T.ga T.gg T.sub T.cl T.sg T.tk T.ob) I.kIn J e (fun z => nomatch z) fun tk => ⟨.bl b, H, I.kept (t' := tk) fun _ _ z => z, rfl, q⟩
theorem call_isXT : CallR X (.builtin "isinstance") (rIsXT X.K) := by
  intro pins s σ H xs us Q I r hyp
  obtain ⟨a, D, t, fs, bmB, newId, cs, cvs, b, ex, hx, T, hT, hcv, e, q⟩ := hyp
  subst ex
  cases r with
  | cons rx rr =>
    cases rr with
    | cons rt rn =>
      cases rn
      cases rx
      cases rt
      obtain ⟨its, rv, ⟨o, g1, g2, n, g3⟩, _⟩ := I.tuple hT
      have ec := hcv _ rv
      subst ec
      obtain ⟨oc, od, oda, osl⟩ := o
      dsimp only at g2 g3
      subst g2 g3
      obtain ⟨ox, od', J, _⟩ := exI_inst I.hok hx
      exact kia_tup (kitx_exc (xc_cls T) T.ga T.gg T.sub T.cl T.sg T.tk T.ob) I.kIn J g1 e (fun z => nomatch z) fun tk => ⟨.bl b, H, I.kept (t' := tk) fun _ _ z => z, rfl, q⟩
/-- e.f of such an exception -/
def tXfld (K : Frag) (n : Str) (te : TE) : TE := fun σ H Q => te σ H fun x H1 => ∃ (a D : Addr) (fs : List (Str × V)) (bmB : List Value) (newId : String) (v : V), x = .ref a ∧ ExI H1 a D (some fs) ∧ XC K D bmB newId ∧ findIn K (.ref D) n = some none ∧ fs.lookup n = some v ∧ Q v H1
theorem pe_xfld {e : Expr} {te : TE} {pos : Pos} {n : Str} (he : PE X e te) (hb : attributeBase e n X.env (eval e X.env) = eval e X.env := by rfl) : PE X (.Attribute e n pos) (tXfld X.K n te) := by
  refine ⟨fun pins s σ H Q I h => ?_⟩
  refine attr_of hb (thn (he.run pins s σ H _ I h) fun u s1 hh => ?_)
  obtain ⟨x, H1, I1, rx, a, D, fs, bmB, newId, v, ex, hx, T, hno, hl, q⟩ := hh
  subst ex
  cases (show u = Value.ref a from rx)
  obtain ⟨ox, od, J, hf⟩ := exI_inst I1.hok hx
  obtain ⟨o, eo, look⟩ := hf fs rfl
  subst eo
  obtain ⟨u, hu, ru⟩ := look n v hl
  exact HandSPX.exc_get I1.kIn J T.ga T.gg T.sub (findObj_own T.dic hno rfl hu) (handed_of ru) ⟨v, H1, I1.tok _, ru, q⟩
/-- what is tracked at an address may be tracked otherwise, nothing being written -/
theorem retrack {pins : List (Addr × Obj)} {σ : L2.St} {H : Hp} {s : Shared} {x : Addr} {o : HO} (I : Inv X pins σ H s) (mu : Mut (H x)) (there : ∃ u, s.heap.get? x = some u) (new : ObjOk X.prog X.w (upd H x o) s.heap x o) : Inv X pins σ (upd H x o) s :=
  I.write (t' := s.toks) (x := x) (e := x) (h' := s.heap) mu (.inl rfl) (fun b u _ z => z) there new
/-- an expression that gives a new exception with fields, raised -/
theorem pmk_x {e : Expr} {te : TE} (hx : X.ex = []) (he : PE X e te) :
    PMk X e (fun σ H Q => te σ H fun x H1 => ∃ (a C d : Addr) (fs : List (Str × V)), x = .ref a ∧ H1 a = some (exo a C (some d)) ∧ H1 d = some (exd d fs) ∧ d ≠ a ∧ Fr0 X.H_0 a ∧ Raises X (.ref C) ∧ Q (.ref C) (some d) (delH (upd H1 d (.xd fs)) a)) := by
  intro pins s σ H Q I h
  refine wpAny_mono (he.run pins s σ H _ I h) (fun u s1 hu => ?_) fun _ _ x => x
  obtain ⟨v, H1, I1, r1, a, C, d, fs, rfl, ha, hd, da, h0, hr, q⟩ := hu
  cases r1
  obtain ⟨mA, hn, rel⟩ := exd_at I1.hok hd
  have thd : ∃ u, s1.heap.get? d = some u := by
    obtain ⟨o, _, _, e', _⟩ := id hn
    exact ⟨o, e'⟩
  have I2 : Inv X pins σ (upd H1 d (.xd fs)) s1 := retrack I1 (by rw [hd]; exact True.intro) thd ⟨mA, hn, rel⟩
  have ha2 : (upd H1 d (.xd fs)) a = some (exo a C (some d)) := by
    rw [upd_ne (Ne.symm da)]
    exact ha
  obtain ⟨t1, ho⟩ := exo_at I2.hok ha2
  obtain ⟨G, gs, ga, J⟩ := I2.untrack ha2 h0 hx
  exact ⟨a, _, _, { s1 with heap := G }, delH (upd H1 d (.xd fs)) a, .ref C, some d, rfl, J, gs, ga, ho, ⟨rfl, rfl⟩, rfl, rfl, delH_same, rfl, I1.bare, hr, q⟩
end
end Pb

namespace Pb
open PySem PySem.W PyProof.Rows L2
/-- the clause tx of an except: by what an exception's class tells, it matches or not -/
def Clause (X : Cx) (tx : Expr) (CL : Value → Option Bool) : Prop :=
  ∀ (a : Addr) (oe : Obj) (pn pins : List (Addr × Obj)) (σ : L2.St) (H : Hp) (s : Shared) (cls : Value) (b : Bool) (Q : Value → Shared → Prop) (E : Value → Shared → Prop), Inv (X.suite a ((a, oe) :: pn)) pins σ H s →
    Looks (model X.prog X.w) s.heap (typeOf (.ref a)) cls → CL cls = some b →
    (∀ cv h', (∀ c o, s.heap.get? c = some o → h'.get? c = some o) → Looks (model X.prog X.w) h' (excMatches (.ref a) cv) b → Q cv { s with heap := h' }) →
    wpAny (model X.prog X.w) (X.A.mark (some (.ref a))) (eval tx X.env) Q E s
section
variable {X : Cx} {x y : Str} {c c' : Value} {np nq pos : Pos}
theorem cl_one (hc : Names X x c) : Clause X (.Name x np) (fun cls => exmOne X.K cls c) := by
  intro a oe pn pins σ H s cls b Q E S LT e fin
  have q := fin c s.heap (fun _ _ z => z) (exm_one (M := model X.prog X.w) S.kIn LT e)
  obtain ⟨hg, hdbg, hm | ⟨hm, hv, hnn⟩⟩ := hc
  · exact ld_glob (X := X.suite a ((a, oe) :: pn)) S hg hm q hdbg
  · exact ld_blt (X := X.suite a ((a, oe) :: pn)) S hg hm hv q hnn hdbg
theorem cl_two {k1} (hg : Gl X x) (hm : X.mg x = some c) (hg' : Gl X y) (hm' : X.mg y = some c') (hx : (x == ("__debug__" : Str)) = false := by decide) (hy : (y == ("__debug__" : Str)) = false := by decide)
    (hst : starEach [.Name x np, .Name y nq] X.env = [(false, eval (.Name x np) X.env), (false, eval (.Name y nq) X.env)] := by rfl) : Clause X (.Tuple [.Name x np, .Name y nq] k1 pos) (fun cls => exmAny X.K cls [c, c']) := by
  intro a oe pn pins σ H s cls b Q E S LT e fin
  refine wpAny_Tuple_spliced ?_
  rw [hst]
  show wpAny _ _ (spliced ((false, eval (.Name x np) X.env) :: (false, eval (.Name y nq) X.env) :: [])) _ _ _
  refine Calls.spliced_cons (ld_glob (X := X.suite a ((a, oe) :: pn)) S hg hm ?_ hx)
  refine Calls.spliced_cons (ld_glob (X := X.suite a ((a, oe) :: pn)) S hg' hm' ?_ hy)
  refine Calls.spliced_nil ⟨(by show 2 ≤ sizeLine; decide), ?_⟩
  have kp : ∀ d o, s.heap.get? d = some o → (s.heap.push { cls := .type "tuple", data := .seq [c, c'].toArray }).get? d = some o := fun d o z => Heap.get?_push_of_some _ z
  exact fin _ _ kp (exm_tup2 (M := model X.prog X.w) (S.kIn.keeps kp) (LT.keeps kp) (Heap.get?_push_size _ rfl) e)
end
section
variable {X : Cx} {pins : List (Addr × Obj)} {σ : L2.St} {H : Hp} {s : Shared}
/-- an object that is held fast, and wasn't there at the entry, is tracked from now on -/
theorem track {a : Addr} {oe : Obj} {vs : Array Value} {cls : Value} {d : Option Addr} (I : Inv X ((a, oe) :: pins) σ H s) (h0 : X.s_0.heap.get? a = none) (dt : oe.data = .fields vs) (hz : Zc cls d oe) (hp : ∀ p ∈ X.pn ++ pins, p.1 ≠ a) :
    Inv X pins σ (upd H a (exk a cls d)) s := by
  obtain ⟨ga, na, nL, nF, _⟩ := I.pin (a, oe) (List.mem_append_right _ List.mem_cons_self)
  dsimp only at ga na nL nF
  have neS : ∀ {b : Addr} {o : Obj}, X.s_0.heap.get? b = some o → b ≠ a := fun {b o} z e => by
    rw [e, h0] at z
    cases z
  have neH : ∀ {b : Addr} {o : HO}, H b = some o → b ≠ a := fun {b o} z e => by
    rw [e, na] at z
    cases z
  refine { ok := I.ok, os := I.os, bare := I.bare, base := ?_, loc := I.loc, cell := I.cell, free := ?_, freeC := fun x c e => ?_, pin := fun p hq => ?_, hok := fun b o e => ?_, len := I.len }
  · exact { keep := I.base.keep
            slot := I.base.slot
            free := fun b o z n hx => by rw [upd_ne (neS z)]; exact I.base.free b o z n hx
            there := I.base.there
            tups := fun b xs z => by rw [upd_ne (neH (I.base.tups b xs z))]; exact I.base.tups b xs z
            frzs := fun b o u z => by rw [upd_ne (neH (I.base.frzs b o u z))]; exact I.base.frzs b o u z
            tbls := fun b ps z => by
              obtain ⟨more, y⟩ := I.base.tbls b ps z
              exact ⟨more, by rw [upd_ne (neH y)]; exact y⟩ }
  · rw [upd_ne nL.symm]
    exact I.free
  · obtain ⟨v, o, go, dc⟩ := I.cell x c e
    have nc : c ≠ a := fun z => by
      rw [z, ga] at go
      cases go
      rw [dt] at dc
      cases dc
    rw [upd_ne nc]
    exact I.freeC x c e
  · have hq' : p ∈ X.pn ++ (a, oe) :: pins := by
      rcases List.mem_append.mp hq with z | z
      · exact List.mem_append_left _ z
      · exact List.mem_append_right _ (List.mem_cons_of_mem _ z)
    obtain ⟨g1, g2, g3⟩ := I.pin p hq'
    exact ⟨g1, by rw [upd_ne (hp p hq)]; exact g2, g3⟩
  · by_cases hb : b = a
    · subst hb
      rw [upd_same] at e
      cases e
      exact exk_ok ga hz dt
    · rw [upd_ne hb] at e
      exact (I.hok b o e).stay (fun _ _ _ z => z) (fun c z => by rw [upd_ne (neH z)]; exact z) fun c xs z => by rw [upd_ne (neH z)]; exact z
end
/-- what «except tx as n» wishes of an exception: behind the suite it is kept (slot i, n's, is empty) -/
def wG (CL : Value → Option Bool) (i : Nat) (ts : Addr → Value → Option Addr → TS) (Wout : WX) (D : Ends) : WX := fun cls d σ H => ∃ b, CL cls = some b ∧
  (b = true → ∀ a, H a = none → ts a cls d
    { nx := fun σ' H' => H' a = none → D.nx (σ'.set i none) (upd H' a (exk a cls d)), rt := fun v H' => H' a = none → D.rt v (upd H' a (exk a cls d)),
      bk := fun σ' H' => H' a = none → D.bk (σ'.set i none) (upd H' a (exk a cls d)), ct := fun σ' H' => H' a = none → D.ct (σ'.set i none) (upd H' a (exk a cls d)) } (σ.set i (some (.ref a))) H) ∧
  (b = false → Wout cls d σ H)
theorem fly_push {B h h' : Heap} {l : List Env} {e : Addr} {Z : Obj → Prop} (x : HandSPX.FlyingZ B l e Z h) (k : ∀ c o, h.get? c = some o → h'.get? c = some o) : HandSPX.FlyingZ B l e Z h' := by
  obtain ⟨x1, x2, x3, oe, vs, T, oT, ts, y1, y2, y3, y4, y5, y6, y7, y8, y9⟩ := x
  exact ⟨fun b o z => k b o (x1 b o z), x2, x3.of_keeps fun b o z _ => ⟨o, k b o z, rfl⟩, oe, vs, T, oT, ts, k _ _ y1, y2, y3, y4, y5, y6, k _ _ y7, y8, y9⟩
theorem slots_push {h h1 h2 : Heap} (x : h.UpToSlots h1) (k : ∀ c o, h1.get? c = some o → h2.get? c = some o) : h.UpToSlots h2 := fun b o z n => by
  obtain ⟨sl, y⟩ := x b o z n
  exact ⟨sl, k _ _ y⟩
section
variable {X : Cx} {n : Str} {tx : Expr} {CL : Value → Option Bool} {i : Nat} {body suite : List Stmt} {b₀ : Stmt} {pos pos' : Pos} {tb : WX → TS} {ts : Addr → Value → Option Addr → TS} {Wout : WX}
theorem ps_tryG (hs : X.stack = X.env :: X.outer) (hf : X.env.frame = some X.env.locals) (hex : X.ex = []) (hN : X.N.Nodup) (hi : X.N[i]? = some n) (hln : X.env.kindOf n = some .local) (hc : Clause X tx CL) (tk : Takes X Wout)
    (hb : ∀ (W : WX) (pn : List (Addr × Obj)) (xe : Value → Shared → Prop), Takes (X.tr pn xe) W → PassesOwn (model X.prog X.w) X.A X.env xe → PSs (X.tr pn xe) body (tb W))
    (hsu : ∀ (a : Addr) (oe : Obj) (cls : Value) (d : Option Addr) (pn : List (Addr × Obj)), Zc cls d oe → (∃ vs, oe.data = .fields vs) → PSs (X.suite a ((a, oe) :: pn)) (b₀ :: suite) (ts a cls d)) :
    PS X (.Try body [.ExceptHandler (some tx) (some n) (b₀ :: suite) pos'] [] [] pos) (fun D σ H => tb (wG CL i ts Wout D) D σ H) := by
  refine ⟨fun pins s σ H D I hyp => ?_⟩
  have ok := I.ok
  have frm : X.A.frames = some (X.env :: X.outer) := by rw [ok.frames, hs]
  refine wpAny_Try_except ?_
  refine wpAny_mono ((hb (wG CL i ts Wout D) (X.pn ++ pins) (fun e s₁ => wpAny (model X.prog X.w) X.A (noteFrame e X.env) (fun _ s₂ => wpAny (model X.prog X.w) X.A (setFlight e none)
    (fun _ s₃ => wpAny (model X.prog X.w) X.A (handleBy e X.env [.ExceptHandler (some tx) (some n) (b₀ :: suite) pos']) (SP X pins D) X.xe s₃) X.xe s₂) X.xe s₁) (fun u s' xx => ?_) PassesOwn.looking).run [] s σ H D (I.toTry _) hyp) (fun f s1 hsp => ?_) (fun e s1 he => he)
  · obtain ⟨a, B, sI, pins', σ', H', cls, d, eu, J', nb, up, sky, na, os, ag, b, hCL, hyes, hno⟩ := xx
    subst eu
    have J : Inv X pins σ' H' sI := J'.ofTry ok
    have sky2 : Sky B (X.env :: X.outer) a (Zc cls d) X.env.locals s'.heap := by
      rw [← hs]
      exact sky
    show wpAny (model X.prog X.w) X.A (noteFrame (.ref a) X.env) _ _ _
    refine Sky.land Zc.steady frm hf sky2 fun h3 fl3 up3 => ?_
    have J3 : Inv X pins σ' H' { s' with heap := h3 } := J.landed nb fl3.1 (up.trans up3) os ag
    obtain ⟨oe3, vs3, he3, hz3, hd3⟩ := fl3.there
    have nfr : a ∉ frs (X.env :: X.outer) := fun hm => by
      obtain ⟨_, o', e', hnf⟩ := fl3.2.2.1.mem hm
      rw [he3] at e'
      cases e'
      exact hnf _ hd3
    have nL : a ≠ X.env.locals := fun z => nfr (List.mem_filterMap.mpr ⟨X.env, List.mem_cons_self, by rw [hf, z]⟩)
    have nF : a ∉ X.fs := fun hm => by
      obtain ⟨e, he, q⟩ := List.mem_filterMap.mp hm
      exact nfr (List.mem_filterMap.mpr ⟨e, List.mem_cons_of_mem _ he, q⟩)
    have nI : sI.heap.get? a = none := by
      cases q : sI.heap.get? a with
      | none => rfl
      | some o =>
        have z := nb a o q (by rw [hs]; exact nfr)
        rw [fl3.2.1] at z
        cases z
    have n0 : X.s_0.heap.get? a = none := by
      cases q : X.s_0.heap.get? a with
      | none => rfl
      | some o =>
        obtain ⟨o', z⟩ := J.base.there a o q (by rw [hex]; exact fun z => nomatch z)
        rw [nI] at z
        cases z
    have nP : ∀ p ∈ X.pn ++ pins, p.1 ≠ a := fun p hp z => by
      have y := (J.pin p hp).1
      rw [z, nI] at y
      cases y
    have S3 := J3.suite he3 hd3 na nL nF
    refine wpAny_handleBy_cons (codeAny_handlers_test ?_) (by intro q; cases q)
    have LT : Looks (model X.prog X.w) h3 (typeOf (.ref a)) cls := fun A Q E s k q => wpAny_typeOf_ref (k _ _ he3) (by rw [hz3.1]; exact q)
    refine hc a oe3 (X.pn ++ pins) [] σ' H' _ cls b _ _ S3 LT hCL fun cv h5 k5 LM => ?_
    refine LM.here ?_
    have fl5 : HandSPX.FlyingZ B (X.env :: X.outer) a (Zc cls d) h5 := fly_push fl3 k5
    have up5 : sI.heap.UpToSlots h5 := slots_push (up.trans up3) k5
    cases b with
    | true =>
      refine codeAny_handlers_suite_as ?_
      refine HandSPX.lands_againZ fl5 fun h4 fl4 up4 => ?_
      have J4 : Inv X pins σ' H' { s' with heap := h4 } := J.landed nb fl4.1 (up5.trans up4) os ag
      obtain ⟨oe4, vs4, he4, hz4, hd4⟩ := fl4.there
      have S4 := J4.suite he4 hd4 na nL nF
      refine store_ok (X := X.suite a ((a, oe4) :: (X.pn ++ pins))) (v := .ref a) S4 hN hi (.inl hln) rfl (fun s5 S5 => ?_) (.inr hln)
      refine wpAny_mono ((hsu a oe4 cls d (X.pn ++ pins) hz4 ⟨_, hd4⟩).run [] s5 _ H' _ S5 (hyes rfl a na)) (fun f s6 hsp => ?_) (fun _ _ z => False.elim z)
      have fin : ∀ {σ6 : L2.St} {H6 : Hp} {Q : Shared → Prop}, Inv (X.suite a ((a, oe4) :: (X.pn ++ pins))) [] σ6 H6 s6 → (H6 a = none → ∀ s7, Inv X pins (σ6.set i none) (upd H6 a (exk a cls d)) s7 → Q s7) →
          wpAny (model X.prog X.w) X.A (do bindName X.env n .none; unbindBehindTheSuite X.env n pos') (fun _ s7 => Q s7) X.xe s6 := fun {σ6 H6 Q} S6 hq => by
        have J6 : Inv X pins σ6 H6 s6 := S6.unsuite ok
        have pa := S6.pin (a, oe4) (List.mem_append_left _ List.mem_cons_self)
        have J6' : Inv X ((a, oe4) :: pins) σ6 H6 s6 := J6.pins_of fun p hp => by
          rcases List.mem_cons.mp hp with e | z
          · rw [e]
            exact pa
          · exact J6.pin p (List.mem_append_right _ z)
        exact gone_ok J6' hN hi hln fun s7 J7 => hq pa.2.1 s7 (track J7 n0 hd4 hz4 nP)
      cases f with
      | next =>
        obtain ⟨σ6, H6, S6, q6⟩ := hsp
        exact fin S6 fun e s7 J7 => ⟨_, _, J7, q6 e⟩
      | brk =>
        obtain ⟨σ6, H6, S6, q6⟩ := hsp
        exact fin S6 fun e s7 J7 => ⟨_, _, J7, q6 e⟩
      | cont =>
        obtain ⟨σ6, H6, S6, q6⟩ := hsp
        exact fin S6 fun e s7 J7 => ⟨_, _, J7, q6 e⟩
      | ret u =>
        obtain ⟨v6, σ6, H6, S6, r6, q6⟩ := hsp
        exact fin S6 fun e s7 J7 => ⟨_, _, _, J7, r6, q6 e⟩
    | false =>
      show wpAny _ X.A (handleBy (.ref a) X.env []) _ _ _
      refine wpAny_handleBy_nil ?_
      obtain ⟨y1, y2, y3, oe, vs, T, oT, ts', he, hz, hd, h1, hr⟩ := id fl5
      unfold PySem.passOn
      refine wpAny_bind (wpAny_field he hd h1 ?_)
      rw [if_neg (show ¬ ((Value.ref T == Value.none) = true) from by simp)]
      have fin : wpAny (model X.prog X.w) X.A (setFlight (.ref a) X.env.frame) (fun _ s4 => wpAny (model X.prog X.w) X.A (throw (.ref a) : Sem Flow) (SP X pins D) X.xe s4) X.xe { s' with heap := h5 } := by
        rw [hf]
        refine HandSPX.setFlight_upZ fl5 fun h4 hh4 up4 => wpAny_throw (tk _ _ ?_)
        exact ⟨a, B, sI, pins, σ', H', cls, d, rfl, J, nb, up5.trans up4, .inr (.inr (by rw [hs]; exact hh4)), na, os, ag, hno rfl⟩
      first
        | exact wpAny_bind (wpAny_pure (wpAny_bind fin))
        | exact wpAny_bind fin
  · cases f with
    | next =>
      obtain ⟨σ', H', J', q⟩ := hsp
      exact wpAny_execs_nil ⟨σ', H', J'.ofTry ok, q⟩
    | brk =>
      obtain ⟨σ', H', J', q⟩ := hsp
      exact ⟨σ', H', J'.ofTry ok, q⟩
    | cont =>
      obtain ⟨σ', H', J', q⟩ := hsp
      exact ⟨σ', H', J'.ofTry ok, q⟩
    | ret u =>
      obtain ⟨v, σ', H', J', r, q⟩ := hsp
      exact ⟨v, σ', H', J'.ofTry ok, r, q⟩
end
end Pb

/-! ### defs that show things: called where nothing is being shown -/
namespace Pb
open PySem PySem.Spec PyProof.Rows L2
/-- as FnOk, where no repr is under way -/
structure FnG (P : Program) (w : World) (K : PySem.W.Frag) (mg : Str → Option Value) (base : Heap) (CX : CXT) (k : Nat) (f : Addr) (fd : FuncData) (ps : List Str) (sp : Sp) : Prop where
  len : ∀ vs H Q E, sp vs H Q E → vs.length = ps.length
  run : ∀ (A : Around) (outer : List Env) (s : Shared) (H : Hp) (args : Args) (us : List Value) (vs : List V) (Q : VK) (E : XK), A.guards = some [] → Room k A → Env0 P w K mg base A outer s H → BindsTo s fd args (ps.zip us) →
    Vals vs us → sp vs H Q E → codeAny (model P w) A (.call (.ref f) args) (CR CX outer P w H s Q E) s
section
variable {P : Program} {w : World} {K : PySem.W.Frag} {mg : Str → Option Value} {base : Heap} {CX : CXT} {k : Nat} {f : Addr} {ps : List Str} {sp : Sp}
theorem FnG.of {fd : FuncData} (F : FnOk P w K mg base CX k f fd ps sp) : FnG P w K mg base CX k f fd ps sp :=
  ⟨F.len, fun A outer s H args us vs Q E _ => F.run A outer s H args us vs Q E⟩
theorem FnG.mono {fd : FuncData} {j : Nat} (F : FnG P w K mg base CX k f fd ps sp) (h : k ≤ j) : FnG P w K mg base CX j f fd ps sp :=
  ⟨F.len, fun A outer s H args us vs Q E hg hr => F.run A outer s H args us vs Q E hg (hr.mono h)⟩
variable {name qual : Str} {params : Arguments} {body : List Stmt} {scope : Scope} {dvs : List V} {kws : List (Str × V)} {fd : FuncData} {N : List Str}
theorem fnG_of (F : FunD K name qual params body scope dvs kws f fd) (S : FnScope N ps scope) (len : ∀ vs H Q E, sp vs H Q E → vs.length = ps.length)
    (hbody : ∀ (cdv : Value) (A : Around) (outer : List Env) (s : Shared) (H : Hp) (vs : List V) (Q : VK) (E : XK), A.guards = some [] → Room k (A.deeper (envOfC qual scope s.heap.objs.size f cdv)) → sp vs H Q E →
      ∃ t, PSs (cxOf CX P w K mg base N qual scope f cdv A outer s H E) body t ∧ t { nx := fun _ H' => Q .non H', rt := Q } (start N vs) H) : FnG P w K mg base CX (k + 1) f fd ps sp := by
  obtain ⟨oc, od, dV, kV, doc, pm, an, cdv, ct, osl, efd, lk, hcd, _, _⟩ := F.ex
  subst efd
  refine ⟨len, fun A outer s H args us vs Q E hg hr e0 hb r hsp => ?_⟩
  have hl := len _ _ _ _ hsp
  have k1 : K.In s.heap := e0.mod.kin.keeps fun b o e => (e0.bs b o e).1
  have k2 : s.heap.NoLimit := e0.mod.nolimit.keeps fun b o e => (e0.bs b o e).1
  have k3 : ∀ y ∈ ps.zip us, scope.names.lookup y.1 = some .local ∨ (scope.names.lookup y.1 = some .cell ∧ ((cellsFrom (s.heap.objs.size + 1) scope.names []).lookup y.1).isSome = true) := by
    rintro ⟨y, v⟩ hy
    rcases S.par y (List.of_mem_zip hy).1 with z | z
    · exact .inl z
    · exact .inr ⟨z, PySem.W.cellsFrom_some _ _ _ (.inl z)⟩
  refine codeAny_call_function hr.depth (k1 _ _ lk) rfl S.co S.gen rfl (PySem.W.codeRec_of k1 hcd) (hb _ _ _ _ ?_)
  refine wpAny_newFunctionEnv_cells S.kind k3 fun env he s1 x => ?_
  subst he
  refine ⟨k2.keeps x.toInCall.keep, codeAny_func ?_⟩
  obtain ⟨t, ht, hq⟩ := hbody cdv A outer s H vs Q E hg (hr.deeper _) hsp
  have I : Inv (cxOf CX P w K mg base N qual scope f cdv A outer s H E) [] (start N vs) H s1 := inv_start S hr.hd e0 hl r x
  refine wpAny_mono (ht.run [] s1 (start N vs) H _ I hq) (fun fl s' hs => ?_) fun e s' hs => hs
  cases fl with
  | ret u =>
    obtain ⟨v, σ', H', J, rv, q⟩ := hs
    exact ⟨v, H', J.os, J.bare, J.base, J.hok, rv, q⟩
  | next =>
    obtain ⟨σ', H', J, q⟩ := hs
    exact ⟨V.non, H', J.os, J.bare, J.base, J.hok, rfl, q⟩
  | brk =>
    obtain ⟨_, _, _, q⟩ := hs
    exact q.elim
  | cont =>
    obtain ⟨_, _, _, q⟩ := hs
    exact q.elim
end
section
variable {X : Cx} {CX : CXT} {k : Nat} {f : Addr} {fd : FuncData} {ps : List Str} {sp : Sp} {ds : List Value} {dvs : List V} {E : XK} {x : Str} {p pos : Pos} {e : Expr} {es : List Expr} {t : TA}
/-- f(e, ..) of such a def -/
theorem pe_callG (F : FnG X.prog X.w X.K X.mg X.base CX k f fd ps sp) (gd : X.A.guards = some []) (hr : Room k X.A) (hg : Gl X x) (hm : X.mg x = some (.ref f)) (hk : PySem.W.keepIn X.K (.ref f) = true) (hb : Binds X.K fd ps ds) (hd : Vals dvs ds) (hx : Passes CX X E)
    (ha : PA X (e :: es) t) (hdb : (x == ("__debug__" : Str)) = false := by decide) (he : starEach (e :: es) X.env = (false, eval e X.env) :: starEach es X.env := by rfl) (hpl : (backTo pos (starEach es X.env)).any (·.1) = false := by rfl) :
    PE X (.Call (.Name x p) (e :: es) [] pos) (tCall sp dvs E t) := by
  refine ⟨fun pins s σ H Q I hyp => ?_⟩
  refine wpAny_Call_Name_kw (ld_glob I hg hm ?_ hdb)
  refine PySem.W.callWith_K (h₀ := X.base) I.ok.mod.kin hk (thn (ha.run pos pins s σ H _ I hyp) fun us s1 z => ?_) he hpl
  obtain ⟨vs, H1, I1, r, q⟩ := z
  refine ⟨I1.kIn, ?_⟩
  have r2 : Vals (vs ++ dvs) (us ++ ds) := r.append hd
  have hl : (us ++ ds).length = ps.length := by
    rw [← r2.length]
    exact F.len _ _ _ _ q
  refine wpAny_call (codeAny_mono (F.run X.A X.stack s1 H1 ⟨us, []⟩ (us ++ ds) (vs ++ dvs) Q E gd hr I1.env0 (hb s1 us I1.kIn hl) r2 q) fun r s' hq => ?_)
  cases r with
  | error e => exact hx pins σ H1 s1 e s' I1 hq
  | ok fl =>
    cases fl with
    | ret u => exact I1.after hq
    | next => exact False.elim hq
    | brk => exact False.elim hq
    | cont => exact False.elim hq
/-- repr(x) of data at any depth -/
def rRepr (K : PySem.W.Frag) : List V → Hp → VK → Prop := fun xs H Q => ∃ (a : Addr) (d : PyData), xs = [.ref a] ∧ Dp K H (.ref a) d ∧ d.showable = true ∧ d.hasDict = false ∧ d.depth ≤ 60 ∧ d.shown.length ≤ sizeLine ∧ Q (.str d.shown) H
theorem call_repr (gd : X.A.guards = some []) (hr : Room k X.A) : CallR X (.builtin "repr") (rRepr X.K) := by
  intro pins s σ H xs us Q I r hyp
  obtain ⟨a, d, ex, hd, h1, h2, h3, h4, q⟩ := hyp
  subst ex
  cases r with
  | cons rx rn =>
    cases rn
    obtain ⟨as, rd⟩ := Dp.reads I d _ _ hd rx
    cases rx
    have hu := hr.un
    refine repr_of_reads' rd h1 (PyData.noDict_hsm h2) gd (by omega) (fun _ _ z => z) (fun h' u tk kp => ?_) h4
    exact ⟨.str d.shown, H, I.kept (t' := tk) kp, ⟨u, rfl⟩, q⟩
end
end Pb

/-! ### the end: a law whose def shows things -/
namespace Pb
open PySem PySem.Spec PyProof.Rows L2
theorem lawG {P : Program} {w : World} {K : PySem.W.Frag} {mg mb : Str → Option Value} {CX : CXT} {k : Nat} {fa a : Addr} {fd : FuncData} {x : Str} {sp : Sp} {s₁ : Shared} {vs : List Value} {ns : List Int} (KX : K.In s₁.heap) (hns : s₁.heap.Ns mainGlobals mg)
    (hb : s₁.heap.Ns builtinsNs mb) (hbb : ∀ x : Str, x ≠ "__name__" → mb x = bootBuiltins x) (hlim : s₁.heap.NoLimit) (hg : s₁.gens = #[]) (ha : s₁.heap.get? a = some { cls := .type "list", data := .seq vs.toArray }) (hi : IntsAre vs ns) (hl : ns.length ≤ sizeLine)
    (hr : Room k callerA) (F : ∀ base : Heap, K.In base → base.Ns mainGlobals mg → FnG P w K mg base CX k fa fd [x] sp) (hbind : ∀ (s : Shared) (u : Value), BindsTo s fd ⟨[u], []⟩ [(x, u)])
    (hsp : ∀ H : Hp, Only H → SqL K H a (ns.map V.int) → sp [.ref a] H (fun v _ => v = .bl true) fun _ _ _ => False) (hCX : ∀ H e s', CX [] H s₁ (fun _ _ _ => False) e s' → False) :
    codeAny (model P w) callerA (.call (.ref fa) ⟨[.ref a], []⟩) (fun r s' => r = .ok (.ret (.bool true)) ∧ OldK s₁.heap s'.heap ∧ s'.os = s₁.os ∧ AllBare s'.gens) s₁ := by
  have vi := vals_ints hi
  have li := hi.length
  have core : ∀ H : Hp, Only H → SqL K H a (ns.map V.int) → HOk P w H s₁.heap → (∀ b, H b ≠ none → b = a) → (H a ≠ none → K.lookup a = none) →
      codeAny (model P w) callerA (.call (.ref fa) ⟨[.ref a], []⟩) (fun r s' => r = .ok (.ret (.bool true)) ∧ OldK s₁.heap s'.heap ∧ s'.os = s₁.os ∧ AllBare s'.gens) s₁ := fun H hO hS hok hA hK => by
    have free : ∀ {b : Addr}, b ≠ a → H b = none := fun {b} nb => by
      cases q : H b with
      | none => rfl
      | some u => exact absurd (hA b (by rw [q]; simp)) nb
    have noA : ∀ {b : Addr} {o : Obj} {es : Array DictEntry} {ep : Nat}, s₁.heap.get? b = some o → o.data = .dict es ep → H b = none := fun {b o es ep} e d => free fun z => by
      rw [z, ha] at e
      cases e
      cases d
    have nsK : ∀ {b : Addr} {m : Str → Option Value}, s₁.heap.Ns b m → (hidT s₁.heap H).Ns b m := fun {b m} z => by
      obtain ⟨o, es, ep, e, d, r⟩ := z
      exact ⟨o, es, ep, hidT_get e (noA e d), d, r⟩
    have kb : K.In (hidT s₁.heap H) := fun b o e => hidT_get (KX b o e) (by
      cases q : H b with
      | none => rfl
      | some u =>
        have z := hA b (by rw [q]; simp)
        rw [z] at e q
        rw [hK (by rw [q]; simp)] at e
        cases e)
    have mo : Mod K mg (hidT s₁.heap H) := by
      obtain ⟨mc, l1, l2⟩ := hlim
      exact ⟨kb, nsK hns, ⟨mb, nsK hb, hbb⟩, ⟨mc, nsK l1, l2⟩⟩
    have e0 : Env0 P w K mg (hidT s₁.heap H) callerA [] s₁ H :=
      ⟨rfl, mo, fun b o e => of_hidT e, Nat.le_of_eq (hidT_size _ _), trivial, (fun b z => nomatch (show b ∈ ([] : List Addr) from z)), hok, .of_eq hg⟩
    refine codeAny_mono ((F _ kb (nsK hns)).run callerA [] s₁ H ⟨[.ref a], []⟩ [.ref a] [.ref a] _ _ rfl hr e0 (hbind s₁ (.ref a)) (.cons rfl .nil) (hsp H hO hS)) fun r s' z => ?_
    cases r with
    | error e => exact (hCX H e s' z).elim
    | ok fl =>
      cases fl with
      | next => exact z.elim
      | brk => exact z.elim
      | cont => exact z.elim
      | ret u =>
        obtain ⟨v, H', os, bare, un, hok', rv, q⟩ := z
        cases (show v = .bl true from q)
        cases (show u = Value.bool true from rv)
        refine ⟨rfl, OldK.of_keep fun b o e => ?_, os, bare⟩
        rcases hO b with y | ⟨ob, xs, y⟩
        · exact un.keep b o e y (fun z => nomatch (show b ∈ ([] : List Addr) from z)) (fun z => nomatch z)
        · obtain ⟨e1, _⟩ := hok b _ y
          obtain ⟨e2, _⟩ := hok' b _ (un.frzs b ob _ y)
          rw [e] at e1
          cases e1
          exact e2
  cases hk : K.lookup a with
  | some o =>
    have e := KX a o hk
    rw [ha] at e
    cases e
    refine core (fun _ => none) (fun _ => .inl rfl) (.inr ⟨_, vs.toArray, _, hk, rfl, rfl, rfl, ?_, by simpa using vi⟩) (fun b u z => by cases z) (fun b z => absurd rfl z) fun z => absurd rfl z
    rw [List.size_toArray, li]
    exact hl
  | none =>
    have y : upd (fun _ => none) a (.frz { cls := .type "list", data := .seq vs.toArray } (.lst (ns.map V.int))) a = some (.frz { cls := .type "list", data := .seq vs.toArray } (.lst (ns.map V.int))) := upd_same
    refine core (upd (fun _ => none) a (.frz { cls := .type "list", data := .seq vs.toArray } (.lst (ns.map V.int)))) (fun b => ?_) (.inl (.inr ⟨_, y⟩)) (fun b u z => ?_) (fun b z => ?_) fun _ => hk
    · by_cases e : b = a
      · rw [e]
        exact .inr ⟨_, _, y⟩
      · exact .inl (upd_ne e)
    · by_cases e : b = a
      · rw [e, y] at z
        cases z
        rw [e]
        exact ⟨ha, by rw [List.length_map]; exact hl, vs, _, vi, ha⟩
      · rw [upd_ne e] at z
        cases z
    · by_cases e : b = a
      · exact e
      · exact absurd (upd_ne e) z
theorem walkG {l : PySem.W.OpenLaw} {n k : Nat} {q : Program} {loose : List Str} {XP : (Str → Option Value) → Heap → Prop} {YP : World → Heap → Prop} {d : DefRec} {CX : CXT} {x : Str} (hn : l.most = some n) (hn2 : n ≤ sizeLine) (hdf : d.params.defaults = []) (hr : Room k callerA)
    (F : ∀ (w : World) (mg : Str → Option Value) (fa : Addr) (h : Heap), YP w h → h.Ns mainGlobals mg → mg d.name = some (.ref fa) →
      ∃ (K : PySem.W.Frag) (fd : FuncData) (sp : Sp), K.In h ∧ (∀ (s : Shared) (u : Value), BindsTo s fd ⟨[u], []⟩ [(x, u)]) ∧ (∀ (H : Hp) (a : Addr) (ns : List Int), ns.length ≤ n → Only H → SqL K H a (ns.map V.int) → sp [.ref a] H (fun v _ => v = .bl true) fun _ _ _ => False) ∧
        ∀ base : Heap, K.In base → base.Ns mainGlobals mg → FnG l.prog w K mg base CX k fa fd [x] sp)
    (hCX : ∀ (H : Hp) (s : Shared) (e : Value) (s' : Shared), CX [] H s (fun _ _ _ => False) e s' → False) : PySem.W.WalkO q loose XP YP l.row.toRowW d [] (fun f vs => PySem.call f vs) := by
  refine Att.attach_call hn hdf fun w s₀ s₁ mg mb fa o pm cd doc a vs ns G Y ho hd hcd hmg hobj hints hlen hg => ?_
  obtain ⟨K, fd, sp, KX, bb, hs, hF⟩ := F w mg fa _ Y G.T.g hmg
  exact lawG KX G.T.g G.T.b G.T.builtins G.T.nolimit hg hobj hints (Nat.le_trans hlen hn2) hr hF bb (fun H hO hS => hs H a ns hlen hO hS) fun H e s' => hCX H s₁ e s'
/-! ### the head's facts: any checks of the written part, and the defs -/
def obsX (cks : List (PySem.W.Frag → Bool)) (fn : List He.DefD) (K : PySem.W.Frag) : He.AlD := ((cks.all fun c => c K) && fn.all fun d => d.ok K, fn.map fun d => He.fnW K d.at_)
def SaysX (cks : List (PySem.W.Frag → Bool)) (fn : List He.DefD) (K : PySem.W.Frag) : Prop := obsX cks fn K = He.valD fn
def obsXG (n : Nat) (cks : List (PySem.W.Frag → Bool)) (fn : List He.DefD) (g : Addr → Option Obj) : He.AlD := obsX cks fn (He.frG g (He.asD g n))
def hookX (n : Nat) (cks : List (PySem.W.Frag → Bool)) (fn : List He.DefD) : PySem.W.Hook where
  α := He.AlD
  obs := fun s => obsXG n cks fn s.heap.get?
  val := fun _ => He.valD fn
  says := fun _ h => ∃ K : PySem.W.Frag, K.In h ∧ SaysX cks fn K
  of := fun _ _ e => ⟨_, He.frG_in, e⟩
  keeps := fun _ _ _ ⟨K, hK, c⟩ k => ⟨K, PySem.W.Frag.In.keeps hK k, c⟩
theorem obsXG_eq {n : Nat} {cks : List (PySem.W.Frag → Bool)} {fn : List He.DefD} {g : Addr → Option Obj} {s : Shared} (h : ∀ a, g a = s.heap.get? a) : obsXG n cks fn g = (hookX n cks fn).obs s := by
  have e : g = s.heap.get? := funext h
  rw [e]
  rfl
section
variable {cks : List (PySem.W.Frag → Bool)} {fn : List He.DefD} {K : PySem.W.Frag}
theorem SaysX.all (c : SaysX cks fn K) : (cks.all fun c => c K) = true := (He.ba (show ((cks.all fun c => c K) && fn.all fun d => d.ok K) = true from congrArg (fun z : He.AlD => z.1) c)).1
theorem SaysX.fact (c : SaysX cks fn K) (i : Nat) {f : PySem.W.Frag → Bool} (h : cks[i]? = some f := by rfl) : f K = true := List.all_eq_true.mp c.all f (List.mem_of_getElem? h)
theorem SaysX.def_ (c : SaysX cks fn K) (i : Nat) {d : He.DefD} (h : fn[i]? = some d := by rfl) : ∃ fd, FunD K d.name d.qual d.params d.body d.scope (d.dvs K) (d.kws K) (He.fAd K d.at_) fd := by
  have c2 := (He.ba (show ((cks.all fun c => c K) && fn.all fun d => d.ok K) = true from congrArg (fun z : He.AlD => z.1) c)).2
  have e : fn.map (fun d => He.fnW K d.at_) = fn.map He.DefD.val := congrArg (fun z : He.AlD => z.2) c
  have e2 : (fn.map fun d => He.fnW K d.at_)[i]? = (fn.map He.DefD.val)[i]? := by rw [e]
  rw [List.getElem?_map, List.getElem?_map, h] at e2
  exact He.DefD.funD (Option.some.inj e2) (List.all_eq_true.mp c2 d (List.mem_of_getElem? h))
end
def gloB (x : Str) (K : PySem.W.Frag) : Bool := (He.Fa.glo x).ok K
def freeB (x : Str) (K : PySem.W.Frag) : Bool := (He.Fa.free x).ok K
end Pb

/-! ### data that can be shown: of small numbers and texts, few things -/
namespace Pb
open PySem PySem.Spec PyProof.Rows L2
structure Sm (n k : Nat) (d : PyData) : Prop where
  sh : d.showable = true
  ls : d.leavesShort 13 = true
  nd : d.hasDict = false
  dp : d.depth ≤ k
  bk : d.bulk ≤ n
structure SmA (n k : Nat) (ds : List PyData) : Prop where
  sh : PyData.showableAll ds = true
  ls : PyData.leavesShortAll 13 ds = true
  nd : PyData.hasDictAll ds = false
  dp : PyData.depthAll ds ≤ k
  bk : PyData.bulkAll ds ≤ n
theorem Sm.fits {n k : Nat} {d : PyData} (h : Sm n k d) (hn : n ≤ 1048576) : d.shown.length ≤ sizeLine := PyData.shown_fits_bulk (B := 13) (by decide) (by decide) h.ls (Nat.le_trans h.bk hn)
theorem Sm.int {i : Int} (h : i.natAbs < 10 ^ 12) : Sm 0 0 (.int i) where
  sh := decide_eq_true (by
    by_cases e : i.natAbs = 0
    · rw [e]
      decide
    · have z : i.natAbs < 2 ^ 1920 := Nat.lt_trans h (by decide)
      exact (Nat.log2_lt e).mpr z)
  ls := decide_eq_true (PyData.shown_int_le h)
  nd := rfl
  dp := Nat.le_refl _
  bk := Nat.le_refl _
theorem SmA.nil : SmA 0 0 [] := ⟨rfl, rfl, rfl, Nat.le_refl _, Nat.le_refl _⟩
theorem SmA.cons {n m k j : Nat} {d : PyData} {ds : List PyData} (h : Sm n k d) (t : SmA m j ds) : SmA (n + 1 + m) (max k j) (d :: ds) where
  sh := by
    show (d.showable && PyData.showableAll ds) = true
    rw [h.sh, t.sh]
    rfl
  ls := by
    show (d.leavesShort 13 && PyData.leavesShortAll 13 ds) = true
    rw [h.ls, t.ls]
    rfl
  nd := by
    show (d.hasDict || PyData.hasDictAll ds) = false
    rw [h.nd, t.nd]
    rfl
  dp := by
    show max d.depth (PyData.depthAll ds) ≤ max k j
    have := h.dp
    have := t.dp
    omega
  bk := by
    show d.bulk + 1 + PyData.bulkAll ds ≤ n + 1 + m
    have := h.bk
    have := t.bk
    omega
theorem Sm.tup {n k : Nat} {ds : List PyData} (h : SmA n k ds) : Sm n (k + 1) (.tuple ds) := ⟨h.sh, h.ls, h.nd, Nat.succ_le_succ h.dp, h.bk⟩
theorem Sm.lst {n k : Nat} {ds : List PyData} (h : SmA n k ds) : Sm n (k + 1) (.list ds) := ⟨h.sh, h.ls, h.nd, Nat.succ_le_succ h.dp, h.bk⟩
theorem Sm.str {x : Str} {n : Nat} (h : (x.cps.toList.all fun c => decide (c < 16 ^ 8)) = true) (hn : x.cps.size ≤ n) : Sm n 0 (.str x) := ⟨rfl, h, rfl, Nat.le_refl _, hn⟩
end Pb

namespace Pb
open PySem PySem.Spec PyProof.Rows L2
/-- for i, x in enumerate(xs), by a word between the turns -/
theorem for_enumL {K : PySem.W.Frag} {a : Addr} {xs : List V} {g : TG} {tb : TS} {D : Ends} {σ : L2.St} {H : Hp} (Pv : Nat → L2.St → Hp → Prop) (start : Pv 0 σ H) (stays : ∀ i σ H, i ≤ xs.length → Pv i σ H → SqL K H a xs)
    (turn : ∀ i x T σ H, xs[i]? = some x → H T = none → Pv i σ H → g (.ref T) σ (upd H T (.tup [.int (i : Nat), x])) fun σ2 H2 => tb { D with nx := Pv (i + 1), ct := Pv (i + 1), bk := D.nx } σ2 H2) (behind : ∀ σ H, Pv xs.length σ H → D.nx σ H) :
    ∃ W : Nat → Nat → L2.St → Hp → Prop, (∃ m, W 0 m σ H) ∧ ∀ i m σ H, W i m σ H → ((Ite K a).stop i H ∧ D.nx σ H) ∨ ((Ite K a).go i H ∧ ∃ N : L2.St → Hp → Prop, (∀ σ' H', N σ' H' → ∃ m', m' < m ∧ W (i + 1) m' σ' H') ∧
      ∀ x H', (Ite K a).yld i H x H' → g x σ H' fun σ2 H2 => tb { D with nx := N, ct := N, bk := D.nx } σ2 H2) := by
  refine ⟨fun i m σ H => m = xs.length - i ∧ i ≤ xs.length ∧ Pv i σ H, ⟨xs.length, by simp, Nat.zero_le _, start⟩, fun i m σ H hw => ?_⟩
  obtain ⟨em, hi, p⟩ := hw
  have hq := stays i σ H hi p
  by_cases lt : i < xs.length
  · refine .inr ⟨⟨xs, xs[i], hq, by simp [lt]⟩, Pv (i + 1), fun σ' H' p' => ⟨xs.length - (i + 1), by omega, rfl, lt, p'⟩, fun v H' y => ?_⟩
    obtain ⟨T, x, ev, nT, eH, hx⟩ := y
    subst ev eH
    exact turn i x T σ H (hx xs hq) nT p
  · have e : i = xs.length := by omega
    subst e
    exact .inl ⟨⟨xs, hq, Nat.le_refl _⟩, behind σ H p⟩
end Pb

namespace Pb
open PySem PySem.Spec PyProof.Rows L2
theorem ExI.same {H H' : Hp} {a D : Addr} {fs : Option (List (Str × V))} (h : ExI H a D fs) (s : Same H H') : ExI H' a D fs := by
  cases fs with
  | none =>
    rcases h with h | h
    · exact .inl (s _ _ h)
    · exact .inr (s _ _ h)
  | some l =>
    obtain ⟨dx, ⟨x, y⟩ | ⟨x, y⟩⟩ := h
    · exact ⟨dx, .inl ⟨s _ _ x, s _ _ y⟩⟩
    · exact ⟨dx, .inr ⟨s _ _ x, s _ _ y⟩⟩
theorem Same.seqT {K : PySem.W.Frag} {H H' : Hp} {a : Addr} {xs : List V} (e : Same H H') (h : SqT K H a xs) : SqT K H' a xs := by
  rcases h with (h | ⟨o, h⟩) | h
  · exact .inl (.inl (e _ _ h))
  · exact .inl (.inr ⟨o, e _ _ h⟩)
  · exact .inr h
mutual
theorem Dp.same {K : PySem.W.Frag} {H H' : Hp} (s : Same H H') : ∀ {v : V} {d : PyData}, Dp K H v d → Dp K H' v d
  | _, _, .non => .non
  | _, _, .bl b => .bl b
  | _, _, .int i => .int i
  | _, _, .str x => .str x
  | _, _, .lst h t => .lst (s.seq h) (DpAll.same s t)
  | _, _, .tup h t => .tup (Same.seqT s h) (DpAll.same s t)
theorem DpAll.same {K : PySem.W.Frag} {H H' : Hp} (s : Same H H') : ∀ {v : List V} {d : List PyData}, DpAll K H v d → DpAll K H' v d
  | _, _, .nil => .nil
  | _, _, .cons a b => .cons (Dp.same s a) (DpAll.same s b)
end
theorem DpAll.app {K : PySem.W.Frag} {H : Hp} : ∀ {v u : List V} {d e : List PyData}, DpAll K H v d → DpAll K H u e → DpAll K H (v ++ u) (d ++ e)
  | _, _, _, _, .nil, h => h
  | _, _, _, _, .cons a b, h => .cons a (DpAll.app b h)
theorem DpAll.len {K : PySem.W.Frag} {H : Hp} : ∀ {v : List V} {d : List PyData}, DpAll K H v d → v.length = d.length
  | _, _, .nil => rfl
  | _, _, .cons _ b => congrArg Nat.succ (DpAll.len b)
theorem nxo {H : Hp} {a : Addr} {o : HO} (na : H a = none) : Same H (upd H a o) ∧ (upd H a o) a = some o := ⟨same_upd na, upd_same⟩
theorem lk1 (n : Str) (v : V) : ([(n, v)] : List (Str × V)).lookup n = some v := by simp [List.lookup]
/-- what was tracked stays, but what is told at d -/
def But (d : Addr) (H H' : Hp) : Prop := ∀ b, b ≠ d → H' b = H b
end Pb

namespace Pb
open PySem PySem.Spec PyProof.Rows L2 TL
/-- a text of plain signs, not too long -/
structure Pl (z : Str) : Prop where
  asc : ∀ c ∈ z.cps.toList, c < 128
  sz : z.cps.size ≤ 20000
theorem Pl.small {z : Str} (h : Pl z) : z.cps.size < sizeLine := Nat.lt_of_le_of_lt h.sz (by decide)
theorem lay_str {z : Str} (h : ∀ c ∈ z.cps.toList, c < 128) : PyData.canLay0 (.str z) = true := by
  show (z.cps.all (· < 0x110000)) = true
  rw [← Array.all_toList, List.all_eq_true]
  intro c hc
  exact decide_eq_true (Nat.lt_trans (h c hc) (by decide))
theorem lay_all : ∀ (ds : List PyData), (∀ d ∈ ds, d.canLay0 = true) → PyData.canLayAll0 ds = true
  | [], _ => rfl
  | d :: ds, h => by
    show (d.canLay0 && PyData.canLayAll0 ds) = true
    rw [h d List.mem_cons_self, lay_all ds fun e he => h e (List.mem_cons_of_mem _ he)]
    rfl
theorem depth_all {k : Nat} : ∀ (ds : List PyData), (∀ d ∈ ds, d.depth ≤ k) → PyData.depthAll ds ≤ k
  | [], _ => Nat.zero_le _
  | d :: ds, h => by
    show max d.depth (PyData.depthAll ds) ≤ k
    exact Nat.max_le.mpr ⟨h d List.mem_cons_self, depth_all ds fun e he => h e (List.mem_cons_of_mem _ he)⟩
/-- a list of plain texts, as data -/
theorem shp_strs {ys : List Str} (h : ∀ y ∈ ys, ∀ c ∈ y.cps.toList, c < 128) : SeqAt.shaped (.list (ys.map .str)) = true := by
  have a : PyData.canLay0 (.list (ys.map .str)) = true := lay_all _ fun d hd => by
    obtain ⟨y, hy, e⟩ := List.mem_map.mp hd
    rw [← e]
    exact lay_str (h y hy)
  have b : (PyData.list (ys.map .str)).depth ≤ 64 := by
    show PyData.depthAll (ys.map .str) + 1 ≤ 64
    have : PyData.depthAll (ys.map .str) ≤ 0 := depth_all _ fun d hd => by
      obtain ⟨y, hy, e⟩ := List.mem_map.mp hd
      rw [← e]
      exact Nat.le_refl _
    omega
  unfold SeqAt.shaped
  rw [a, decide_eq_true b]
  rfl
theorem dp_strs {K : PySem.W.Frag} {H : Hp} {p : Addr} (ys : List Str) (e : H p = some (.lst (ys.map V.str))) : Dp K H (.ref p) (.list (ys.map .str)) := by
  refine .lst (.of e) ?_
  clear e
  induction ys with
  | nil => exact .nil
  | cons y r ih => exact .cons (.str y) ih
theorem set_get {σ : L2.St} {i : Nat} {x : Option V} (h : i < σ.length) : (σ.set i x)[i]? = some x := List.getElem?_set_self h
theorem arr_get {z : Str} {i c : Nat} (h : z.cps[i]? = some c) : z.cps.toList[i]? = some c := by rw [Array.getElem?_toList]; exact h
/-! ### things of any kind -/
inductive Kd (H : Hp) : V → String → Prop
  | non : Kd H .non "NoneType"
  | bl (b : Bool) : Kd H (.bl b) "bool"
  | int (i : Int) : Kd H (.int i) "int"
  | str (x : Str) : Kd H (.str x) "str"
  | lst {a : Addr} {xs : List V} (e : H a = some (.lst xs)) : Kd H (.ref a) "list"
  | tup {a : Addr} {xs : List V} (e : H a = some (.tup xs)) : Kd H (.ref a) "tuple"
  | dic {a : Addr} {kvs : List (Key × V)} (e : H a = some (.dK kvs)) : Kd H (.ref a) "dict"
theorem Kd.ty {K : PySem.W.Frag} {H : Hp} {x : V} {T : String} (h : Kd H x T) : TyX K H x (.type T) := by
  cases h with
  | non => exact .base .non
  | bl b => exact .base (.bl b)
  | int i => exact .base (.int i)
  | str x => exact .base (.str x)
  | lst e => exact .base (.lst e)
  | tup e => exact .base (.tup e)
  | dic e => exact .base (.dK e)
theorem Kd.same {H H' : Hp} {x : V} {T : String} (h : Kd H x T) (s : Same H H') : Kd H' x T := by
  cases h with
  | non => exact .non
  | bl b => exact .bl b
  | int i => exact .int i
  | str x => exact .str x
  | lst e => exact .lst (s _ _ e)
  | tup e => exact .tup (s _ _ e)
  | dic e => exact .dic (s _ _ e)
abbrev FnP (K : PySem.W.Frag) (x : Str) (st : Stmt) (f : Addr) (fd : FuncData) : Prop := FunD K x x (defArgs st) (defBody st) (defScope st) [] [] f fd
abbrev FnD (K : PySem.W.Frag) (x : Str) (st : Stmt) (dvs : List V) (f : Addr) (fd : FuncData) : Prop := FunD K x x (defArgs st) (defBody st) (defScope st) dvs [] f fd
/-! ### what is drawn -/
def drV (c : Addr) (n l u : Int) : List (Key × V) := [(.inr "cells", .ref c), (.inr "at", .int n), (.inr "left", .int l), (.inr "used", .int u)]
/-- a draw at d, of which at most n were drawn -/
def Dr (H : Hp) (d : Addr) (n : Nat) : Prop := ∃ (c : Addr) (a l u : Int) (cells : List Int), H d = some (.dK (drV c a l u)) ∧ H c = some (.lst (cells.map V.int)) ∧
  cells ≠ [] ∧ cells.length ≤ 100 ∧ 0 ≤ a ∧ a ≤ n ∧ 0 ≤ u ∧ u ≤ n
def spBegin (K : PySem.W.Frag) : Sp := fun vs H Q _ => ∃ (a : Addr) (ns : List Int), vs = [.ref a] ∧ SqL K H a (ns.map V.int) ∧ ns.length ≤ 63 ∧
  ∀ H' d c, H c = none → H d = none → Dr H' d 0 → (∀ b, b ≠ c → b ≠ d → H b ≠ none → H' b = H b) → Q (.ref d) H'
def spMixed : Sp := fun vs H Q _ => ∃ c k : Int, vs = [.int c, .int k] ∧ 0 ≤ k ∧ k ≤ 2 ^ 40 ∧ ∀ v : Int, Q (.int v) H
def spNext : Sp := fun vs H Q _ => ∃ (d : Addr) (m : Int) (n : Nat), vs = [.ref d, .int m] ∧ Dr H d n ∧ 0 < m ∧ m < 1073741824 ∧ n < 2 ^ 40 ∧
  ∀ (v : Int) (H' : Hp), 0 ≤ v → v < m → Dr H' d (n + 1) → But d H H' → Q (.int v) H'
theorem dr_cells (c : Addr) (a l u : Int) : valV (drV c a l u) (.inr "cells") = some (.ref c) := by rfl
theorem dr_at (c : Addr) (a l u : Int) : valV (drV c a l u) (.inr "at") = some (.int a) := by rfl
theorem dr_left (c : Addr) (a l u : Int) : valV (drV c a l u) (.inr "left") = some (.int l) := by rfl
theorem dr_used (c : Addr) (a l u : Int) : valV (drV c a l u) (.inr "used") = some (.int u) := by rfl
theorem dp_at (c : Addr) (a l u z : Int) : putK (drV c a l u) (.inr "at") (.int z) = drV c z l u := by rfl
theorem dp_left (c : Addr) (a l u z : Int) : putK (drV c a l u) (.inr "left") (.int z) = drV c a z u := by rfl
theorem dp_used (c : Addr) (a l u z : Int) : putK (drV c a l u) (.inr "used") (.int z) = drV c a l z := by rfl
theorem dr_len (c : Addr) (a l u : Int) : (drV c a l u).length < sizeLine := by
  show 4 < sizeLine
  decide

theorem Dr.same {H H' : Hp} {d : Addr} {n : Nat} (h : Dr H d n) (s : Same H H') : Dr H' d n := by
  obtain ⟨c, a, l, u, cs, h1, h2, r⟩ := h
  exact ⟨c, a, l, u, cs, s _ _ h1, s _ _ h2, r⟩
theorem Dr.at {H : Hp} {d : Addr} {n : Nat} (h : Dr H d n) : ∃ kvs, H d = some (.dK kvs) := by
  obtain ⟨c, a, l, u, cs, h1, h2, r⟩ := h
  exact ⟨_, h1⟩
/-- a list that isn't the draw stays where one draws -/
theorem But.lst {H H' : Hp} {d p : Addr} {n : Nat} {xs : List V} (b : But d H H') (h : Dr H d n) (e : H p = some (.lst xs)) : H' p = some (.lst xs) := by
  obtain ⟨kvs, ed⟩ := h.at
  rw [b p (ne_of e ed (by intro z; cases z))]
  exact e
/-- all but the draw stays -/
def Kp (d : Addr) (H H' : Hp) : Prop := ∀ b o, b ≠ d → H b = some o → H' b = some o
theorem Kp.refl {d : Addr} (H : Hp) : Kp d H H := fun _ _ _ e => e
theorem Kp.trans {d : Addr} {H H' H'' : Hp} (a : Kp d H H') (b : Kp d H' H'') : Kp d H H'' := fun c o n e => b c o n (a c o n e)
theorem But.kp {d : Addr} {H H' : Hp} (b : But d H H') : Kp d H H' := fun c o n e => by
  rw [b c n]
  exact e
theorem Same.kp {d : Addr} {H H' : Hp} (s : Same H H') : Kp d H H' := fun c o _ e => s c o e
theorem Dr.mono {H : Hp} {d : Addr} {n m : Nat} (h : Dr H d n) (l : n ≤ m) : Dr H d m := by
  obtain ⟨c, a, x, u, cs, h1, h2, h3, h4, h5, h6, h7, h8⟩ := h
  exact ⟨c, a, x, u, cs, h1, h2, h3, h4, h5, by omega, h7, by omega⟩
theorem Kp.lst {H H' : Hp} {d p : Addr} {n : Nat} {xs : List V} (b : Kp d H H') (h : Dr H d n) (e : H p = some (.lst xs)) : H' p = some (.lst xs) := by
  obtain ⟨kvs, ed⟩ := h.at
  exact b p _ (ne_of e ed (by intro z; cases z)) e
theorem Kp.tup {H H' : Hp} {d p : Addr} {n : Nat} {xs : List V} (b : Kp d H H') (h : Dr H d n) (e : H p = some (.tup xs)) : H' p = some (.tup xs) := by
  obtain ⟨kvs, ed⟩ := h.at
  exact b p _ (ne_of e ed (by intro z; cases z)) e
/-- the sign of z at a drawn place -/
theorem at_sign {z : Str} {v : Int} (h0 : 0 ≤ v) (h1 : v < z.length) : ∃ c, c ∈ z.cps.toList ∧ atI z.cps.toList v = some c := by
  obtain ⟨j, rfl⟩ : ∃ j : Nat, v = (j : Int) := ⟨_, (Int.toNat_of_nonneg h0).symm⟩
  have hl : z.cps.toList.length = z.length := Array.length_toList
  have hj : j < z.cps.toList.length := by omega
  exact ⟨z.cps.toList[j], List.getElem_mem hj, atI_nat (List.getElem?_eq_getElem hj)⟩
/-- what stands in a list at a drawn place -/
theorem at_list {xs : List V} {v : Int} (h0 : 0 ≤ v) (h1 : v < xs.length) : ∃ x, x ∈ xs ∧ atI xs v = some x := by
  obtain ⟨j, rfl⟩ : ∃ j : Nat, v = (j : Int) := ⟨_, (Int.toNat_of_nonneg h0).symm⟩
  have hj : j < xs.length := by omega
  exact ⟨xs[j], List.getElem_mem hj, atI_nat (List.getElem?_eq_getElem hj)⟩
theorem none_of {H H' : Hp} {a : Addr} (s : Same H H') (h : H' a = none) : H a = none := by
  cases e : H a with
  | none => rfl
  | some o =>
    rw [s _ _ e] at h
    cases h
theorem ne_none {H : Hp} {a b : Addr} {o : HO} (h : H a = some o) (n : H b = none) : a ≠ b := fun e => by
  rw [e, n] at h
  cases h
theorem asg_go {te : TE} {g : TG} {tS : TS} {D : Ends} {σ : L2.St} {H : Hp} (h : te σ H fun v H1 => g v σ H1 fun σ2 H2 => tS D σ2 H2) : tSeq (tAsg te g) tS D σ H := h
theorem len20k {n : Nat} (h : n ≤ 30000) : n < sizeLine := Nat.lt_of_le_of_lt h (by decide)
def sc0 : Scope := { kind := .function, names := [], isGenerator := false, isCoroutine := false, more := [] }
theorem blkOk_any {N : List Str} {sc scope : Scope} {own : List (Str × Nat)} (h : blkC N sc0 scope own = true) : BlkOk N sc scope own := by
  have b := blkOk_by h
  exact ⟨b.kind, b.uniq, b.ix, fun y hy e => (by rcases b.free y hy e with z | z <;> exact nomatch z), b.own⟩
def ofL (l : List Nat) : Str := ⟨l.toArray⟩
theorem ofL_tl (x : Str) : ofL (tl x) = x := by
  cases x with
  | mk a => rfl
theorem tl_ofL (l : List Nat) : tl (ofL l) = l := rfl
theorem Dr.updL {H : Hp} {d D : Addr} {n : Nat} {xs : List V} {o : HO} (h : Dr H d n) (e : H D = some (.lst xs)) (hx : ∀ x ∈ xs, ∀ i, x ≠ .int i) : Dr (upd H D o) d n := by
  obtain ⟨cc, a1, l1, u1, cells, g1, g2, g3, g4⟩ := h
  have dD : d ≠ D := fun z => by
    rw [z, e] at g1
    cases g1
  have cD : cc ≠ D := fun z => by
    rw [z, e] at g2
    have g5 : xs = cells.map V.int := HO.lst.inj (Option.some.inj g2)
    cases cells with
    | nil => exact g3 rfl
    | cons c r => exact hx (.int c) (by rw [g5]; simp) c rfl
  exact ⟨cc, a1, l1, u1, cells, by rw [upd_ne dD]; exact g1, by rw [upd_ne cD]; exact g2, g3, g4⟩
theorem strs_nint {ys : List Str} : ∀ x ∈ ys.map V.str, ∀ i, x ≠ .int i := fun x hx i e => by
  obtain ⟨y, _, ey⟩ := List.mem_map.mp hx
  rw [e] at ey
  cases ey
theorem refs_nint {ys : List Addr} : ∀ x ∈ ys.map V.ref, ∀ i, x ≠ .int i := fun x hx i e => by
  obtain ⟨y, _, ey⟩ := List.mem_map.mp hx
  rw [e] at ey
  cases ey
theorem tC_go {v : V} {σ : L2.St} {H : Hp} {Q : VK} (h : Q v H) : tC v σ H Q := h
theorem gName_go {i : Nat} {v : V} {σ : L2.St} {H : Hp} {k : L2.St → Hp → Prop} (h : k (σ.set i (some v)) H) : gName i v σ H k := h
def sg (a : Nat) : Str := ⟨#[a]⟩
/-- a comprehension over a range, of drawn signs -/
theorem lc_dr {te : TE} {i c d : Nat} {n : Nat} {σ : L2.St} {H1 : Hp} {Q : VK} (hi : i < σ.length) (hc : c ≤ 1000) (dr : Dr H1 d n)
    (step : ∀ (k : Nat) (H' : Hp) (Q' : VK), k < c → Dr H' d (n + k) → Kp d H1 H' → (∀ a H'', a < 128 → Dr H'' d (n + k + 1) → Kp d H' H'' → Q' (.str (sg a)) H'') → te ((wipe σ [i]).set i (some (.int (0 + (k : Nat))))) H' Q')
    (q : ∀ (D : Addr) (H' : Hp) (cs : List Nat), H1 D = none → cs.length = c → (∀ a ∈ cs, a < 128) → Dr H' d (n + c) → Kp d H1 H' → H' D = some (.lst ((cs.map sg).map V.str)) → Q (.ref D) H') :
    ∀ D, H1 D = none → ∃ W : Nat → Nat → Hp → Prop, (∃ m, W 0 m (upd H1 D (.lst []))) ∧ ∀ j m H, W j m H →
      ((Itr 0 c).stop j H ∧ Q (.ref D) H) ∨ ((Itr 0 c).go j H ∧ ∃ Nx : Hp → Prop, (∀ H', Nx H' → ∃ m', m' < m ∧ W (j + 1) m' H') ∧ ∀ x H', (Itr 0 c).yld j H x H' → gName i x (wipe σ [i]) H' fun σ2 H2 => wipe σ2 [i] = wipe σ [i] ∧ tYes σ2 H2 fun b H3 =>
        if b = true then te σ2 H3 fun y H4 => ∃ acc, H4 D = some (.lst acc) ∧ acc.length < sizeLine ∧ Nx (upd H4 D (.lst (acc ++ [y]))) else Nx H3) := by
  intro D nD
  refine lc_it walk_range (fun m H' => ∃ cs : List Nat, cs.length = m ∧ (∀ a ∈ cs, a < 128) ∧ Dr H' d (n + m) ∧ Kp d H1 H' ∧ H' D = some (.lst ((cs.map sg).map V.str))) ⟨[], rfl, (fun _ h => nomatch h), dr.same (same_upd nD), Same.kp (same_upd nD), upd_same⟩ (fun _ _ _ _ => trivial) (fun m x Ha Hb hm pv y => ?_) fun H' pv => ?_
  · obtain ⟨cs, hl, ha, dr', kp, eD⟩ := pv
    obtain ⟨rfl, rfl⟩ := y
    refine ⟨?_, ?_⟩
    · show (((σ.set i none).set i _).set i none) = σ.set i none
      rw [List.set_set, List.set_set]
    · dsimp only [tYes]
      rw [if_pos rfl]
      refine step m Hb _ hm dr' kp fun a Hc h128 dr2 kp2 => ⟨_, kp2.lst dr' eD, ?_, cs ++ [a], ?_, fun b hb => ?_, ?_, ?_, ?_⟩
      · rw [List.length_map, List.length_map, hl]
        exact len20k (by omega)
      · rw [List.length_append, hl]
        rfl
      · rcases List.mem_append.mp hb with h | h
        · exact ha b h
        · rw [List.mem_singleton] at h
          subst h
          exact h128
      · exact dr2.updL (kp2.lst dr' eD) strs_nint
      · exact fun b o nb e => by
          rw [upd_ne (ne_none e nD)]
          exact kp2 b o nb (kp b o nb e)
      · rw [upd_same, List.map_append, List.map_append]
        rfl
  · obtain ⟨cs, hl, ha, dr', kp, eD⟩ := pv
    exact q D H' cs nD hl ha dr' kp eD
theorem lc_drR {ta : TA} {te : TE} {i d : Nat} {n e : Nat} {CC : Nat → Prop} {σ : L2.St} {H : Hp} {Q : VK} (hta : ∀ R : List V → Hp → Prop, (∀ (c : Nat) (H1 : Hp), c ≤ 1000 → CC c → Dr H1 d (n + e) → Kp d H H1 → R [.int (c : Nat)] H1) → ta σ H R) (hi : i < σ.length)
    (step : ∀ (k : Nat) (H1 H' : Hp) (Q' : VK), k < 1000 → Kp d H H1 → Dr H1 d (n + e) → Dr H' d (n + e + k) → Kp d H1 H' → (∀ a H'', a < 128 → Dr H'' d (n + e + k + 1) → Kp d H' H'' → Q' (.str (sg a)) H'') → te ((wipe σ [i]).set i (some (.int (0 + (k : Nat))))) H' Q')
    (q : ∀ (D : Addr) (H' : Hp) (cs : List Nat), H D = none ∨ D = d → D ≠ d → CC cs.length → cs.length ≤ 1000 → (∀ a ∈ cs, a < 128) → Dr H' d (n + e + cs.length) → Kp d H H' → H' D = some (.lst ((cs.map sg).map V.str)) → Q (.ref D) H') : tLc (iRng1 ta) (gName i) tYes te [i] σ H Q := by
  refine hta _ fun c H1 hc cc dr kp => ⟨c, rfl, by omega, by omega, ?_⟩
  rw [Int.toNat_natCast]
  refine lc_dr (te := te) (Q := Q) hi hc dr (fun k H' Q' hk dr' kp' q' => step k H1 H' Q' (by omega) kp dr dr' kp' q') fun D H' cs nD hl ha dr' kp' eD => ?_
  have dD : D ≠ d := by
    obtain ⟨kvs, ed⟩ := dr.at
    exact (ne_none ed nD).symm
  subst hl
  refine q D H' cs ?_ dD cc hc ha dr' (kp.trans kp') eD
  cases eH : H D with
  | none => exact .inl rfl
  | some o => exact absurd (kp D o dD eH) (by rw [nD]; simp)
theorem join_signs (cs : List Nat) : tl (Txt.join "" (cs.map sg)) = cs := by
  rw [join_eq, tl_join]
  have e : ∀ l : List (List Nat), joinL (tl ("" : Str)) l = l.flatten := by
    intro l
    induction l with
    | nil => rfl
    | cons p r ih =>
      cases r with
      | nil =>
        show p = _
        simp
      | cons q r =>
        show p ++ ([] ++ joinL (tl ("" : Str)) (q :: r)) = _
        rw [ih]
        rfl
  rw [e, List.map_map]
  induction cs with
  | nil => rfl
  | cons a r ih =>
    rw [List.map_cons, List.flatten_cons, ih]
    rfl
/-- a text of plain signs, of at most k signs -/
def Sh (k : Nat) (z : Str) : Prop := (∀ c ∈ tl z, c < 128) ∧ (tl z).length ≤ k
theorem Sh.pl {k : Nat} {z : Str} (h : Sh k z) (hk : k ≤ 20000) : Pl z := ⟨h.1, by
  have : z.cps.size = (tl z).length := Array.length_toList.symm
  rw [this]
  exact Nat.le_trans h.2 hk⟩
theorem Sh.len {k : Nat} {z : Str} (h : Sh k z) : z.length ≤ k := by
  rw [len_tl z]
  exact h.2
theorem join_sum (cs : List Nat) : ((cs.map sg).map (·.length)).sum + (cs.map sg).length * ("" : Str).length = cs.length := by
  rw [show ("" : Str).length = 0 by decide +kernel, Nat.mul_zero, Nat.add_zero, List.map_map]
  induction cs with
  | nil => rfl
  | cons a r ih =>
    rw [List.map_cons, List.sum_cons, ih, List.length_cons]
    show 1 + _ = _
    omega
theorem Sh.mono {j k : Nat} {z : Str} (h : Sh j z) (l : j ≤ k) : Sh k z := ⟨h.1, Nat.le_trans h.2 l⟩
theorem Sh.app {j k : Nat} {y z : Str} (a : Sh j y) (b : Sh k z) : Sh (j + k) (y ++ z) := by
  have e : tl (y ++ z) = tl y ++ tl z := tl_append y z
  refine ⟨fun c hc => ?_, ?_⟩
  · rw [e] at hc
    rcases List.mem_append.mp hc with h | h
    · exact a.1 c h
    · exact b.1 c h
  · rw [e, List.length_append]
    have := a.2
    have := b.2
    omega
theorem Sh.cut {k : Nat} {z : Str} (a : Sh k z) (lo hi : Option Int) : Sh k (cutS z lo hi) := by
  have e : tl (cutS z lo hi) = ((z.cps.toList.drop (HT.sIx z.length 0 lo)).take (HT.sIx z.length z.length hi - HT.sIx z.length 0 lo)) := rfl
  refine ⟨fun c hc => ?_, ?_⟩
  · rw [e] at hc
    exact a.1 c (List.mem_of_mem_drop (List.mem_of_mem_take hc))
  · rw [e, List.length_take, List.length_drop]
    have : z.cps.toList.length ≤ k := a.2
    omega
theorem sh_sg {c : Nat} (h : c < 128) : Sh 1 (sg c) := ⟨fun a ha => by
  have : a = c := by simpa [sg] using ha
  rw [this]
  exact h, Nat.le_refl _⟩
theorem sh_join {cs : List Nat} (h : ∀ a ∈ cs, a < 128) : Sh cs.length (Txt.join "" (cs.map sg)) := by
  refine ⟨?_, ?_⟩
  · rw [join_signs]
    exact h
  · rw [join_signs]
    exact Nat.le_refl _
end Pb

namespace Pb
open PySem PySem.Spec PyProof.Rows L2
/-! ### min, max of two texts -/
def txAt (x y : Str) : Nat → Str := fun i => if i = 0 then x else y
section
variable {prog : Program} {w : World} {A : Around} {E : Value → Shared → Prop} {s : Shared} {x y : Str} {t u : Tok}
theorem tx_val {i : Nat} {v : Value} (h : #[Value.str x t, Value.str y u][i]? = some v) : ∃ k, v = .str (txAt x y i) k := by
  match i, h with
  | 0, h => exact ⟨t, by simpa [txAt] using h.symm⟩
  | 1, h => exact ⟨u, by simpa [txAt] using h.symm⟩
  | i + 2, h => simp at h
theorem cmp_txL : CmpOf prog w A .Lt (fun i v => #[Value.str x t, Value.str y u][i]? = some v) (fun i j => decide ((txAt x y i).cps.toList < (txAt x y j).cps.toList)) := fun i j vi vj s Q E hi hj h => by
  obtain ⟨_, rfl⟩ := tx_val hi
  obtain ⟨_, rfl⟩ := tx_val hj
  exact PyProof.Rows.lt_str h
theorem cmp_txG : CmpOf prog w A .Gt (fun i v => #[Value.str x t, Value.str y u][i]? = some v) (fun i j => decide ((txAt x y j).cps.toList < (txAt x y i).cps.toList)) := fun i j vi vj s Q E hi hj h => by
  obtain ⟨_, rfl⟩ := tx_val hi
  obtain ⟨_, rfl⟩ := tx_val hj
  exact PySem.P.gt_str h
theorem two_old {h' : Heap} {a b : Value} (hz : (s.heap.push { cls := .type "tuple", data := .seq #[a, b] }).objs.size = s.heap.objs.size + 1)
    (hk : ∀ c o, c ∉ [(s.heap.push { cls := .type "tuple", data := .seq #[a, b] }).objs.size] → ((s.heap.push { cls := .type "tuple", data := .seq #[a, b] }).push { cls := .type "tuple_iterator", data := .fields #[.ref s.heap.objs.size, .int 0 0] }).get? c = some o → h'.get? c = some o) :
    ∀ c o, s.heap.get? c = some o → h'.get? c = some o := fun c o e => by
  refine hk c o (fun z => ?_) (Heap.get?_push_of_some _ (Heap.get?_push_of_some _ e))
  have l := Heap.lt_size e
  rw [List.mem_singleton.mp z, hz] at l
  exact Nat.lt_irrefl _ (Nat.lt_of_succ_lt l)
theorem two_new {a b : Value} (hz : (s.heap.push { cls := .type "tuple", data := .seq #[a, b] }).objs.size = s.heap.objs.size + 1) (c : Addr) (hc : c ∈ [(s.heap.push { cls := .type "tuple", data := .seq #[a, b] }).objs.size, s.heap.objs.size]) :
    c < ((s.heap.push { cls := .type "tuple", data := .seq #[a, b] }).push { cls := .type "tuple_iterator", data := .fields #[.ref s.heap.objs.size, .int 0 0] }).objs.size := by
  rw [Heap.size_push]
  rcases List.mem_cons.mp hc with z | z
  · rw [z]
    exact Nat.lt_succ_self _
  · rw [List.mem_singleton.mp z, hz]
    exact Nat.lt_succ_of_lt (Nat.lt_succ_self _)
theorem min_two_tx {Q : Value → Shared → Prop} (hh : A.handled = none) (h : ∀ h' tk k, (∀ c o, s.heap.get? c = some o → h'.get? c = some o) → Q (.str (if y.cps.toList < x.cps.toList then y else x) k) { s with heap := h', toks := tk }) : wpAny (model prog w) A (call (.builtin "min") [.str x t, .str y u]) Q E s := by
  have isT : (s.heap.push { cls := .type "tuple", data := .seq #[.str x t, .str y u] }).IsTuple s.heap.objs.size #[.str x t, .str y u] := ⟨_, Heap.get?_push_size _ rfl, rfl, 0, rfl⟩
  have hz : (s.heap.push { cls := .type "tuple", data := .seq #[.str x t, .str y u] }).objs.size = s.heap.objs.size + 1 := Heap.size_push ..
  refine call_min_two (wpAny_pyIter_tuple isT ⟨_, [_, s.heap.objs.size], [_], _, _, _, _, rfl, Walks.tuple (A := A.in1) hh _ s.heap.objs.size (by rw [hz]; exact Nat.ne_of_lt (Nat.lt_succ_self _)) #[.str x t, .str y u], ⟨⟨_, Heap.get?_push_size _ rfl, rfl, rfl⟩, isT.push _⟩, two_new hz, by simp, cmp_txL, fun v h' tk hP hk => ?_⟩)
  obtain ⟨k, rfl⟩ := tx_val hP
  have e : txAt x y (argBest (fun i j => decide ((txAt x y i).cps.toList < (txAt x y j).cps.toList)) (#[Value.str x t, Value.str y u].size - 1)) = if y.cps.toList < x.cps.toList then y else x := by
    show txAt x y (argBest (fun i j => decide ((txAt x y i).cps.toList < (txAt x y j).cps.toList)) 1) = _
    by_cases c : y.cps.toList < x.cps.toList <;> simp [argBest, txAt, c]
  rw [e]
  exact h h' tk k (two_old hz hk)
theorem max_two_tx {Q : Value → Shared → Prop} (hh : A.handled = none) (h : ∀ h' tk k, (∀ c o, s.heap.get? c = some o → h'.get? c = some o) → Q (.str (if x.cps.toList < y.cps.toList then y else x) k) { s with heap := h', toks := tk }) : wpAny (model prog w) A (call (.builtin "max") [.str x t, .str y u]) Q E s := by
  have isT : (s.heap.push { cls := .type "tuple", data := .seq #[.str x t, .str y u] }).IsTuple s.heap.objs.size #[.str x t, .str y u] := ⟨_, Heap.get?_push_size _ rfl, rfl, 0, rfl⟩
  have hz : (s.heap.push { cls := .type "tuple", data := .seq #[.str x t, .str y u] }).objs.size = s.heap.objs.size + 1 := Heap.size_push ..
  refine call_max_two (wpAny_pyIter_tuple isT ⟨_, [_, s.heap.objs.size], [_], _, _, _, _, rfl, Walks.tuple (A := A.in1) hh _ s.heap.objs.size (by rw [hz]; exact Nat.ne_of_lt (Nat.lt_succ_self _)) #[.str x t, .str y u], ⟨⟨_, Heap.get?_push_size _ rfl, rfl, rfl⟩, isT.push _⟩, two_new hz, by simp, cmp_txG, fun v h' tk hP hk => ?_⟩)
  obtain ⟨k, rfl⟩ := tx_val hP
  have e : txAt x y (argBest (fun i j => decide ((txAt x y j).cps.toList < (txAt x y i).cps.toList)) (#[Value.str x t, Value.str y u].size - 1)) = if x.cps.toList < y.cps.toList then y else x := by
    show txAt x y (argBest (fun i j => decide ((txAt x y j).cps.toList < (txAt x y i).cps.toList)) 1) = _
    by_cases c : x.cps.toList < y.cps.toList <;> simp [argBest, txAt, c]
  rw [e]
  exact h h' tk k (two_old hz hk)
end
def minS (x y : Str) : Str := if y.cps.toList < x.cps.toList then y else x
def maxS (x y : Str) : Str := if x.cps.toList < y.cps.toList then y else x
def rMinS : List V → Hp → VK → Prop := fun xs H Q => ∃ x y, xs = [.str x, .str y] ∧ Q (.str (minS x y)) H
def rMaxS : List V → Hp → VK → Prop := fun xs H Q => ∃ x y, xs = [.str x, .str y] ∧ Q (.str (maxS x y)) H
section
variable {X : Cx}
theorem call_minS (hc : X.calm = true) : CallR X (.builtin "min") rMinS := by
  intro pins s σ H xs us Q I r h
  obtain ⟨x, y, rfl, q⟩ := h
  obtain ⟨_, _, rfl, ⟨_, rfl⟩, ⟨_, rfl⟩⟩ := vals2 r
  exact min_two_tx (I.ok.hd hc) fun h' tk k kp => ⟨.str (minS x y), H, I.kept kp, ⟨k, rfl⟩, q⟩
theorem call_maxS (hc : X.calm = true) : CallR X (.builtin "max") rMaxS := by
  intro pins s σ H xs us Q I r h
  obtain ⟨x, y, rfl, q⟩ := h
  obtain ⟨_, _, rfl, ⟨_, rfl⟩, ⟨_, rfl⟩⟩ := vals2 r
  exact max_two_tx (I.ok.hd hc) fun h' tk k kp => ⟨.str (maxS x y), H, I.kept kp, ⟨k, rfl⟩, q⟩
end
end Pb

namespace Pb
open PySem PySem.Spec PyProof.Rows L2
/-! ### enumerate(tuple) -/
abbrev tupIt (l : Addr) : Obj := { cls := .type "tuple_iterator", data := .fields #[.ref l, .int 0 0] }
abbrev enumOf (a : Addr) : Obj := { cls := .type "enumerate", data := .fields #[.none, .bool false, .ref a, rawInt 0, .none, .none] }
theorem meets_enT (l : Addr) (items : Array Value) : Meets (Builtin.«enumerate.__new__» ⟨[.type "enumerate", .ref l], []⟩) (fun _ R s => s.heap.IsTuple l items ∧ R (.ok (.ret (.ref (s.heap.push (tupIt l)).objs.size))) { s with heap := (s.heap.push (tupIt l)).push (enumOf s.heap.objs.size) }) :=
  .of_wp fun prog w A R s h => by
    obtain ⟨hp, g, d, tk, os⟩ := s
    obtain ⟨ht, h⟩ := h
    have sub := sub_enumerate
    have q : ∀ {A' : Around} {E : Value → Shared → Prop} {Q : Value → Shared → Prop}, Q (.ref hp.objs.size) ⟨hp.push (tupIt l), g, d, tk, os⟩ → wpAny (model prog w) A' (pyIter (.ref l)) Q E ⟨hp, g, d, tk, os⟩ := fun z => wpAny_pyIter_tuple (s := ⟨hp, g, d, tk, os⟩) ht z
    obtain ⟨⟨oc, od, oo, osl⟩, hol, hc, n, hd⟩ := id ht
    replace hc : oc = .type "tuple" := hc
    replace hd : oo = .seq items n := hd
    subst hc hd
    wp_walk using AutoSeq1.wpAny_loadPart' hol
    refine wpAny_stack_any fun st => wpAny_pure ?_
    split
    · rename_i c _ _ _ _ _
      cases (c == Value.type "enumerate")
      · (wp_walk using AutoSeq1.wpAny_loadPart' hol, q); exact ⟨_, rfl, h⟩
      · (wp_walk using AutoSeq1.wpAny_loadPart' hol, q); exact ⟨_, rfl, h⟩
    · (wp_walk using AutoSeq1.wpAny_loadPart' hol, q); exact ⟨_, rfl, h⟩
theorem call_enT {prog : Program} {w : World} {A : Around} {E : Value → Shared → Prop} {s : Shared} {l : Addr} {items : Array Value} {Q : Value → Shared → Prop} (ht : s.heap.IsTuple l items)
    (h : ∀ h', IsEnum h' (s.heap.objs.size + 1) s.heap.objs.size 0 .none → h'.IsTupleIter s.heap.objs.size l 0 → (∀ b o, s.heap.get? b = some o → h'.get? b = some o) → Q (.ref (s.heap.objs.size + 1)) { s with heap := h' }) : wpAny (model prog w) A (call (.type "enumerate") [.ref l]) Q E s := by
  refine callType_new F.called_enumerate (by decide) (F.typeCall_enumerate_1 _) (F.newCall_enumerate_1 _) (fun ob => F.args_object_init_2 ob _) F.entry_enumerate_new (meets_enT l items) ⟨ht, ?_⟩
  have z : (s.heap.push (tupIt l)).objs.size = s.heap.objs.size + 1 := Heap.size_push ..
  show _ ∧ _
  rw [z]
  have he : IsEnum ((s.heap.push (tupIt l)).push (enumOf s.heap.objs.size)) (s.heap.objs.size + 1) s.heap.objs.size 0 .none := by
    have q := Heap.get?_push_size (s.heap.push (tupIt l)) (o := enumOf s.heap.objs.size) rfl
    rw [z] at q
    exact q
  exact ⟨⟨_, he, rfl⟩, h _ he ⟨_, Heap.get?_push_of_some _ (Heap.get?_push_size _ rfl), rfl, rfl⟩ fun b o e => Heap.get?_push_of_some _ (Heap.get?_push_of_some _ e)⟩
/-- the tuple at a, each item in a new pair -/
def IteT (K : PySem.W.Frag) (a : Addr) : It :=
  ⟨fun i H => ∃ (xs : List V) (x : V), SqT K H a xs ∧ xs[i]? = some x, fun i H v H' => ∃ T x, v = .ref T ∧ H T = none ∧ H' = upd H T (.tup [.int (i : Nat), x]) ∧ ∀ xs, SqT K H a xs → xs[i]? = some x, fun i H => ∃ xs : List V, SqT K H a xs ∧ xs.length ≤ i⟩
theorem turn_enT {P : Program} {w : World} {K : PySem.W.Frag} {elts : List Expr} {kk : Nat} {tpos : Pos} (a e it : Addr) (ea : e ≠ a) (ia : a ≠ it) (ei : e ≠ it) :
    Turn P w K (.Tuple elts kk tpos) (IteT K a) [e, it] e (fun i h => (∃ old, IsEnum h e it ((i : Nat) : Int) old) ∧ h.IsTupleIter it a i) where
  mem := by simp
  obj := fun i h st b hb => by
    obtain ⟨⟨old, he⟩, ⟨o, ho, hc, hd⟩⟩ := st
    rcases List.mem_cons.mp hb with z | z
    · rw [z]
      exact ⟨_, he, fun v q => nomatch q⟩
    · rw [List.mem_singleton.mp z]
      exact ⟨o, ho, fun v q => by rw [hd] at q; cases q⟩
  keep := fun i h h' st k => by
    obtain ⟨⟨old, he⟩, hi⟩ := st
    exact ⟨⟨old, k e (by simp) _ he⟩, hi.at fun o q => k it (by simp) o q⟩
  item := by
    intro X hP hw hK hc i pins s σ H E I hf st hg
    subst hP hw hK
    obtain ⟨⟨old, he⟩, hit⟩ := st
    obtain ⟨xs, x, hq, hx⟩ := hg
    obtain ⟨its, rv, p, hz⟩ := I.tuple hq
    obtain ⟨u, hu, ru⟩ := rv.get hx
    have le : e < s.heap.objs.size := Heap.lt_size he
    have li : it < s.heap.objs.size := by
      obtain ⟨_, q, _⟩ := hit
      exact Heap.lt_size q
    have lt : i < its.toArray.size := by
      have := (List.getElem?_eq_some_iff.mp hu).1
      simpa using this
    have hh : X.A.in1.handled = none := by simpa using I.ok.hd hc
    refine wpAny_pyNext_enum_itemD (Draws.tuple (prog := X.prog) (w := X.w) hh it a ia its.toArray) he ⟨hit, p⟩ lt ei (by simp; exact ⟨ei, ea⟩) fun y h' tk hy ho hst hT hsz hk => ?_
    have yu : y = u := by
      have h1 : its[i]? = some y := by simpa using hy
      rw [hu] at h1
      exact (Option.some.inj h1).symm
    subst yu
    refine ⟨_, rfl, wpAny_letOwnedTupleGo_enum (s := { s with heap := h', toks := tk + 1 }) ho fun h2 he2 sb => ?_⟩
    have hT2 : h2.get? s.heap.objs.size = some { cls := .type "tuple", data := .seq #[.int i tk, y] } := (sb.2 _ (Nat.ne_of_gt le)).trans hT
    have new : ObjOk X.prog X.w (upd H s.heap.objs.size (.tup [.int (i : Nat), x])) h2 s.heap.objs.size (.tup [.int (i : Nat), x]) := ⟨by show 2 ≤ sizeLine; decide, [.int i tk, y], .cons ⟨_, rfl⟩ (.cons ru .nil), ⟨_, hT2, rfl, _, rfl⟩⟩
    have out : ∀ {b : Addr}, b ∉ [e, it] → b ≠ e ∧ b ≠ it := fun {b} hb => ⟨fun z => hb (by simp [z]), fun z => hb (by simp [z])⟩
    have I1 : Inv X pins σ (upd H s.heap.objs.size (.tup [.int (i : Nat), x])) { s with heap := h2, toks := tk + 1 } := I.turnedNew (ch := [e, it]) (fun b ob hb q => (sb.2 b (out hb).1).trans (hk b ob (out hb).1 (out hb).2 q)) hf (Nat.le_refl _) new
    refine ⟨.ref s.heap.objs.size, _, I1, rfl, ⟨_, x, rfl, I.hok.fresh (Nat.le_refl _), rfl, fun ys hy => by rw [I.tuple_inj hy hq]; exact hx⟩, ⟨⟨y, ?_⟩, hst.1.at fun o q => (sb.2 it (Ne.symm ei)).trans q⟩, fun b hb => ?_⟩
    · have e1 : ((i + 1 : Nat) : Int) = (i : Int) + 1 := by omega
      rw [e1]
      exact he2
    · have lb : b < s.heap.objs.size := by
        rcases List.mem_cons.mp hb with z | z
        · rw [z]
          exact le
        · rw [List.mem_singleton.mp z]
          exact li
      rw [upd_ne (Nat.ne_of_lt lb)]
      exact (hf b hb).1
  done := by
    intro X hP hw hK hc i pins s σ H E I hf st hg
    subst hP hw hK
    obtain ⟨⟨old, he⟩, hit⟩ := st
    obtain ⟨xs, hq, hx⟩ := hg
    obtain ⟨its, rv, p, hz⟩ := I.tuple hq
    obtain ⟨f0, f1, f2, f3, f4, f5⟩ := hf it (by simp)
    have hl := rv.length
    have hh : X.A.in1.handled = none := by simpa using I.ok.hd hc
    have hT : s.TypeIs (.ref e) "enumerate" := ⟨_, he, rfl⟩
    unfold pyNext
    refine wpAny_bind (wpAny_attempt (wpAny_callSpecial?_slot (name := Str.ofString "__next__") hT F.slot_enumerate_next (wpAny_call_entry F.slot_enumerate_next hT F.entry_enumerate_next ?_ (F.args_enumerate_next_1 _))))
    refine wpAny_bind (m := field (.ref e) 2) (wpAny_field he rfl (x := .ref it) rfl (wpAny_bind (wpAny_nextOf_tuple_end (items := its.toArray) hh hit p (by simp; omega) fun h' y hy hy2 => ?_)))
    obtain ⟨o, ho, hc'⟩ := hy2
    refine wpAny_bind (wpAny_isInstance (T := "StopIteration") (b := true) ⟨o, ho, hc'⟩ isSubtype_stop (wpAny_pure ⟨rfl, ?_⟩))
    exact I.turned (t' := s.toks) (fun b o hb q => hy b o hb q) f0 f1 f3 f4 f5
  self := fun A i s Q E st h => by
    obtain ⟨⟨_, he⟩, _⟩ := st
    exact wpAny_pyIter_enum he h
def iEnumT (K : PySem.W.Frag) (ta : TA) : TI := fun σ H R => ta σ H fun vs H1 => ∃ a xs, vs = [.ref a] ∧ SqT K H1 a xs ∧ R (IteT K a) H1
theorem pi_enT {X : Cx} {e : Expr} {ta : TA} {p pos tpos : Pos} {elts : List Expr} {kk : Nat} (hg : Gl X "enumerate") (hm : X.mg "enumerate" = none) (ha : PA X [e] ta) (hs : starEach [e] X.env = [(false, eval e X.env)] := by rfl) :
    PI X (.Tuple elts kk tpos) (.Call (.Name "enumerate" p) [e] [] pos) (iEnumT X.K ta) := by
  refine ⟨fun pins s σ H R I h => ?_⟩
  refine Call_ (ld_blt I hg hm boot_enumerate (PyProof.Rows.callWith_type1 (thn (ha.run pos pins s σ H _ I h) fun us s1 z => ?_) hs rfl))
  obtain ⟨vs, H1, I1, r1, a, xs, rfl, hq, q⟩ := z
  cases r1 with
  | cons r rr =>
    cases rr
    cases r
    obtain ⟨its, rv, p', hz⟩ := I1.tuple hq
    have la : a < s1.heap.objs.size := by
      obtain ⟨_, ho, _⟩ := id p'
      exact Heap.lt_size ho
    refine call_enT p' fun h' he hit hk => wpAny_pyIter_enum he ?_
    have I2 : Inv X pins σ H1 { s1 with heap := h' } := I1.kept (t' := s1.toks) hk
    refine ⟨s1.heap.objs.size + 1, [s1.heap.objs.size + 1, s1.heap.objs.size], _, _, H1, rfl, I2, turn_enT a (s1.heap.objs.size + 1) s1.heap.objs.size (Nat.ne_of_gt (Nat.lt_succ_of_lt la)) (Nat.ne_of_lt la) (Nat.succ_ne_self _), ⟨⟨.none, he⟩, hit⟩, fun b hb => ?_, q⟩
    have le : s1.heap.objs.size ≤ b := by
      rcases List.mem_cons.mp hb with z | z
      · rw [z]
        exact Nat.le_add_right _ _
      · rw [List.mem_singleton.mp z]
        exact Nat.le_refl _
    exact I1.fpOk le (I1.hok.fresh le)
theorem walk_enT {K : PySem.W.Frag} {a : Addr} {xs : List V} : Walk (IteT K a) xs.length (fun H => SqT K H a xs) (YPair (fun i => some (.int (i : Nat))) (fun i => xs[i]?)) := by
  refine ⟨fun i _ hi q => ⟨xs, xs[i], q, by simp [hi]⟩, fun _ q => ⟨xs, q, Nat.le_refl _⟩, fun i H v H' _ q y => ?_⟩
  obtain ⟨T, x, h1, h2, h3, h4⟩ := y
  exact ⟨T, .int (i : Nat), x, h1, h2, h3, rfl, h4 xs q⟩
end Pb

namespace Pb
open PySem PySem.Spec PyProof.Rows L2
/-! ### a set made of a list, whatever its items are, by what adding one of them does -/
abbrev newSet (w : World) : Obj := { cls := .type "set", dict := none, data := .set #[] 0 (.fresh 0 0 (!w.params.followText "set-order")) }
section
variable {P : Program} {w : World} {A : Around} {E : Value → Shared → Prop} {s : Shared}
theorem loop_any {I S : Addr} {fp wr : List Addr} {G : Array GenState → Array GenState → Prop} {n : Nat} {Pv : Nat → Value → Prop} {St : Nat → Shared → Prop} {R : Result → Shared → Prop} (W : WalksS P w A.in1 I fp wr G n Pv St) (out : S ∉ fp) (J : Nat → Heap → Prop)
    (stay : ∀ i h h', J i h → (∀ b o, b ∉ wr → h.get? b = some o → h'.get? b = some o) → J i h')
    (add : ∀ (i : Nat) (v : Value) (s : Shared) (Q : Bool → Shared → Prop) (E : Value → Shared → Prop), i < n → Pv i v → J i s.heap → (∀ b h' tk, Heap.SameBut S s.heap h' → s.toks ≤ tk → J (i + 1) h' → Q b { s with heap := h', toks := tk }) → wpAny (model P w) A.in1 (setAdd S v) Q E s) :
    ∀ (k i : Nat) (s : Shared), n - i = k → i ≤ n → St i s → J i s.heap → (∀ s', Moved (S :: wr) G s s' → J n s'.heap → R (.ok (.ret .none)) s') → codeAny (model P w) A (.builtin "set.update.loop" ⟨[.ref S, .ref I], []⟩) R s := by
  have outW : S ∉ wr := fun z => out (W.sub _ z)
  have more : ∀ b ∈ wr, b ∈ S :: wr := fun b z => List.mem_cons_of_mem _ z
  intro k
  induction k with
  | zero =>
    intro i s ek hi st j fin
    obtain rfl : i = n := by omega
    refine codeAny_builtin PyProof.Rows.F.entry_set_update_loop ?_
    rw [Around.under_plainId PyProof.Rows.F.plain_set_update_loop _]
    refine wpAny_bind (m := pyNext (.ref I)) (W.done s _ _ st fun s' mv => ?_)
    exact wpAny_pure (fin s' (mv.mono more) (stay _ _ _ j fun b o nb e => mv.heap b o nb e))
  | succ k ih =>
    intro i s ek hi st j fin
    have lt : i < n := by omega
    refine codeAny_builtin PyProof.Rows.F.entry_set_update_loop ?_
    rw [Around.under_plainId PyProof.Rows.F.plain_set_update_loop _]
    refine wpAny_bind (m := pyNext (.ref I)) (W.item i s _ _ lt st fun v s' pv st' mv => ?_)
    have j' := stay _ _ _ j fun b o nb e => mv.heap b o nb e
    refine wpAny_bind (m := holding [v] (setAdd S v)) (wpAny_holding (add i v s' _ _ lt pv j' fun b h' tk sb le j2 => ?_))
    refine wpAny_pure ⟨plainId_quiet PyProof.Rows.F.plain_set_update_loop _, ih (i + 1) _ (by omega) lt (W.frame _ s' _ _ st' le fun b hb o e => ?_) j2 fun s2 mv2 j3 => fin s2 (Moved.trans W.gtrans ((mv.mono more).then_heap le fun b o hb e => ?_) mv2) j3⟩
    · exact (sb.2 b fun z : b = S => out (z ▸ hb)).trans e
    · exact (sb.2 b fun z : b = S => hb (z ▸ List.mem_cons_self)).trans e
theorem call_setL {l : Addr} {items : Array Value} {Q : Value → Shared → Prop} (J : Nat → Heap → Prop) (hh : A.handled = none) (hl : s.heap.IsList l items)
    (stay : ∀ i h h', J i h → (∀ b o, b ≤ s.heap.objs.size → h.get? b = some o → h'.get? b = some o) → J i h')
    (start : ∀ h, h.get? s.heap.objs.size = some (newSet w) → (∀ b o, s.heap.get? b = some o → h.get? b = some o) → J 0 h)
    (add : ∀ (A' : Around) (i : Nat) (v : Value) (s' : Shared) (Q : Bool → Shared → Prop) (E : Value → Shared → Prop), A'.units ≤ A.units + 4 → items[i]? = some v → J i s'.heap → (∀ b h' tk, Heap.SameBut s.heap.objs.size s'.heap h' → s'.toks ≤ tk → J (i + 1) h' → Q b { s' with heap := h', toks := tk }) → wpAny (model P w) A' (setAdd s.heap.objs.size v) Q E s')
    (h : ∀ (h' : Heap) (tk : Nat), J items.size h' → (∀ b o, s.heap.get? b = some o → h'.get? b = some o) → Q (.ref s.heap.objs.size) { s with heap := h', toks := tk }) : wpAny (model P w) A (call (.type "set") [.ref l]) Q E s := by
  obtain ⟨c, tl, hmro⟩ := PySem.F.called_set.mro
  have made := PySem.F.called_set.made; have sub := PySem.F.called_set.sub
  refine wpAny_call (codeAny_of_tree (show wpAny _ _ (callAny (.type "set") _) _ _ _ from wpAny_pure ⟨Code.quiet_builtin _ (by decide +kernel), codeAny_builtin PySem.F.entry_type_call ?_⟩))
  rw [Around.under_plain (weight_type_call_type "set" [.ref l] []) rfl]
  have n1 := PySem.F.called_set.notType; have n2 := PySem.F.called_set.canCreate; have n3 := PySem.F.typeCall_set_1 (.ref l)
  repeat (any_goals (first | assumption | wp_step))
  refine codeAny_mono (code_set_led1 (.ref l) (E := E) (Q₁ := fun ob s₁ => ob = .ref s.heap.objs.size ∧ s₁ = { s with heap := s.heap.push (newSet w) }) ⟨rfl, rfl⟩) fun r s₁ hr => ?_
  cases r with
  | error e => exact hr
  | ok fl =>
    cases fl with
    | next => exact hr.elim
    | brk => exact hr.elim
    | cont => exact hr.elim
    | ret ob =>
      obtain ⟨rfl, rfl⟩ := hr
      have at_ : (s.heap.push (newSet w)).get? s.heap.objs.size = some (newSet w) := Heap.get?_push_size _ rfl
      have ty : Shared.TypeIs { s with heap := s.heap.push (newSet w) } (.ref s.heap.objs.size) "set" := ⟨_, at_, rfl⟩
      have i1 := PySem.F.called_set.init.lookup; have i2 := PySem.F.called_set.init.bind (.ref s.heap.objs.size)
      repeat (any_goals (first | assumption | wp_step))
      refine codeAny_mono (codeAny_call_builtin (R := wants (fun r s₂ => r = .none ∧ ∃ h' tk, s₂ = { s with heap := h', toks := tk } ∧ J items.size h' ∧ (∀ b o, s.heap.get? b = some o → h'.get? b = some o)) E) PySem.F.called_set.init.plain PySem.F.entry_set_init (check_set_init_1 ty ?_)) fun r₂ s₂ hr₂ => ?_
      · obtain ⟨⟨oc, od, oo, os⟩, hol, hcl, nl, hdl⟩ := hl
        dsimp only at hcl hdl
        subst hcl hdl
        have hol' : (s.heap.push (newSet w)).get? l = some { cls := .type "list", dict := od, data := .seq items nl, slots := os } := Heap.get?_push_of_some _ hol
        have t1 := PySem.F.sub_list_set; have t2 := PySem.F.sub_list_frozenset
        have t3 : (Value.type "list" == Value.type "dict") = false := by decide
        have isl : (s.heap.push (newSet w)).IsList l items := ⟨_, hol', rfl, nl, rfl⟩
        unfold Builtin.«set.__init__» noKeywords Builtin.Frozenset.updateFrom
        generalize ep : pyIter = PI
        wp_walk
        subst ep
        refine wpAny_pyIter_list isl (wpAny_bind (wpAny_runValue ?_))
        have ltl : l < s.heap.objs.size := Heap.lt_size hol
        have hz : (s.heap.push (newSet w)).objs.size = s.heap.objs.size + 1 := Heap.size_push ..
        have h3 : A.in1.in1.in1.handled = none := by simp [hh]
        have neI : l ≠ (s.heap.push (newSet w)).objs.size := by rw [hz]; exact Nat.ne_of_lt (Nat.lt_succ_of_lt ltl)
        have outS : s.heap.objs.size ∉ [(s.heap.push (newSet w)).objs.size, l] := by
          rw [hz]
          intro z
          rcases List.mem_cons.mp z with z | z
          · exact Nat.ne_of_lt (Nat.lt_succ_self _) z
          · exact Nat.ne_of_gt ltl (List.mem_singleton.mp z)
        refine loop_any ((Walks.list h3 _ l neI items).toS) outS J (fun i h1 h2 j k => stay i h1 h2 j fun b o hb e => k b o (fun z => ?_) e) (fun i v s' Q' E' lt pv j k => add _ i v s' Q' E' ?_ pv j k) (items.size - 0) 0 _ (by omega) (Nat.zero_le _) ⟨⟨_, Heap.get?_push_size _ rfl, rfl, rfl⟩, isl.push _⟩ (start _ (Heap.get?_push_of_some _ at_) fun b o e => Heap.get?_push_of_some _ (Heap.get?_push_of_some _ e)) fun s' mv j => ?_
        · rw [List.mem_singleton.mp z, hz] at hb
          exact Nat.not_succ_le_self _ hb
        · simp
        · obtain ⟨h', g', d', tk', os'⟩ := s'
          have eg : g' = s.gens := mv.gens
          have ed : d' = s.drawn := mv.drawn
          have eo : os' = s.os := mv.os
          subst eg ed eo
          refine wpAny_pure (show wpAny _ _ (ret Value.none) _ _ _ from wpAny_pure ⟨rfl, h', tk', rfl, j, fun b o e => ?_⟩)
          have lb : b < s.heap.objs.size := Heap.lt_size e
          refine mv.heap b o (fun z => ?_) (Heap.get?_push_of_some _ (Heap.get?_push_of_some _ e))
          rcases List.mem_cons.mp z with z | z
          · exact Nat.ne_of_lt lb z
          · rw [List.mem_singleton.mp z, hz] at lb
            exact Nat.lt_irrefl _ (Nat.lt_of_succ_lt lb)
      · cases r₂ with
        | error e => exact hr₂
        | ok fl₂ =>
          cases fl₂ with
          | next => exact hr₂.elim
          | brk => exact hr₂.elim
          | cont => exact hr₂.elim
          | ret r =>
            obtain ⟨rfl, h', tk, rfl, j, k⟩ := hr₂
            repeat (any_goals (first | assumption | wp_step))
            exact h _ _ j k
end
end Pb

namespace Pb
open PySem PySem.Spec PyProof.Rows L2
/-! ### a set of texts -/
def txOf (e : Int × Value) : Str := match e.2 with | .str x _ => x | _ => Str.empty
def TxE (P : Program) (w : World) (e : Int × Value) : Prop := ∃ x tk, e.2 = Value.str x tk ∧ e.1 = (PySem.strKind P w).hash x
/-- the set at a has just the texts ks, in the order of its table -/
def SetS (P : Program) (w : World) (h : Heap) (a : Addr) (ks : List Str) : Prop := ∃ o es ep t, h.get? a = some o ∧ o.ExactSet ∧ o.data = .set es ep t ∧ (∀ e ∈ es.toList, TxE P w e) ∧ es.toList.map txOf = ks ∧ ks.Nodup ∧ es.size < scanBound ∧ t.fits es.size = true ∧
  Ris t.place.toList ∧ (w.params.followText "set-order" = true ∨ t.led = true)
section
variable {P : Program} {w : World} {A : Around} {E : Value → Shared → Prop} {s : Shared} {a : Addr} {ks : List Str} {x : Str} {tk : Tok}
theorem TxE.is {e : Int × Value} (h : TxE P w e) (k : Str) : (PySem.strKind P w).is k e.2 = decide (k = txOf e) := by
  obtain ⟨x, t, e1, _⟩ := h
  have e2 : txOf e = x := by unfold txOf; rw [e1]
  rw [e2, e1]
  exact KeyKind.is_eq_decide (strKind_is _ _ _ _) k
theorem tx_elems {l : List (Int × Value)} (h : ∀ e ∈ l, TxE P w e) : ElemsOf (PySem.strKind P w) l := fun e he => by
  obtain ⟨x, t, e1, e2⟩ := h e he
  rw [e1]
  exact ⟨⟨x, strKind_is _ _ _ _, e2⟩, rfl⟩
theorem SetS.at {h h' : Heap} (R : SetS P w h a ks) (k : ∀ o, h.get? a = some o → h'.get? a = some o) : SetS P w h' a ks := by
  obtain ⟨o, es, ep, t, ho, r⟩ := R
  exact ⟨o, es, ep, t, k o ho, r⟩
/-- one that isn't there yet is laid, and all perhaps laid anew -/
theorem tail_tx {g : Bool → Sem Unit} (hg : ∀ (b : Bool) (s₁ : Shared) (Q' : Unit → Shared → Prop), Q' () s₁ → wpAny (model P w) A (g b) Q' E s₁) {o : Obj} {es es1 : Array (Int × Value)} {ep : Nat} {t t2 : SetTable} (ho : s.heap.get? a = some o) (hex : o.ExactSet) (hd : o.data = .set es ep t)
    (good : ∀ e ∈ es1.toList, TxE P w e) (nd : (es1.toList.map txOf).Nodup) (few : es1.size < scanBound) (fit : t2.fits es1.size = true) (ris : Ris t2.place.toList) (led : w.params.followText "set-order" = true ∨ t2.led = true) {wd : Bool} {R : Option Bool → Shared → Prop}
    (hR : ∀ h' ks', Heap.SameBut a s.heap h' → SetS P w h' a ks' → ks'.Perm (es1.toList.map txOf) → R (some true) { s with heap := h' }) :
    wpAny (model P w) A (do
        storeSet a es1 t2
        if (!wd && t2.tooFull) = true then do
            g (relayAll t2 es1 (SetTable.grown es1.size)).2.2
            storeSet a (relayAll t2 es1 (SetTable.grown es1.size)).1 (relayAll t2 es1 (SetTable.grown es1.size)).2.1
            pure (some true)
          else pure (some true)) R E s := by
  refine wpAny_bind (wpAny_storeSet_of ho hd ?_ (fits_of_scanBound few))
  have h1 := store_at (es' := es1) (t' := t2) ho hd
  have b1 := Heap.SameBut.update s.heap a (Obj.putSet es1 t2)
  split
  · have p2 := relayAll_perm t2 es1 (SetTable.grown es1.size); have f2 := relayAll_fits t2 es1 (SetTable.grown es1.size)
    have r2 := relayAll_ris t2 es1 (SetTable.grown es1.size); have l2 := relayAll_led t2 es1 (SetTable.grown es1.size)
    generalize relayAll t2 es1 (SetTable.grown es1.size) = Z at p2 f2 r2 l2 ⊢
    obtain ⟨es2, t3, gave⟩ := Z
    dsimp only at p2 f2 r2 l2 ⊢
    have sz : es2.size = es1.size := by
      have := p2.length_eq
      rw [Array.length_toList, Array.length_toList] at this
      exact this
    refine wpAny_bind (hg _ _ _ (wpAny_bind (wpAny_storeSet_of h1 rfl ?_ (fits_of_scanBound (by rw [sz]; exact few)))))
    refine wpAny_pure (hR _ (es2.toList.map txOf) (b1.trans (Heap.SameBut.update _ a _)) ⟨_, es2, _, t3, store_at (es' := es2) (t' := t3) h1 rfl, hex, rfl, fun e he => good e (p2.mem_iff.mp he), rfl, (p2.map txOf).nodup_iff.mpr nd, by rw [sz]; exact few, f2, r2, ?_⟩ (p2.map txOf))
    rcases led with z | z
    · exact .inl z
    · exact .inr (l2.trans z)
  · exact wpAny_pure (hR _ _ b1 ⟨_, es1, _, t2, h1, hex, rfl, good, rfl, nd, few, fit, ris, led⟩ (List.Perm.refl _))
theorem add_tx {Q : Bool → Shared → Prop} (R : SetS P w s.heap a ks) (room : ks.length + 1 < scanBound)
    (hQ : ∀ b h' ks', Heap.SameBut a s.heap h' → SetS P w h' a ks' → (x ∈ ks → ks' = ks) → (x ∉ ks → ks'.Perm (x :: ks)) → Q b { s with heap := h' }) : wpAny (model P w) A (setAddHashed a (.str x tk) ((PySem.strKind P w).hash x)) Q E s := by
  have R0 := R
  obtain ⟨o, es, ep, t, ho, hex, hd, good, rfl, nd, few, fit, ris, led⟩ := R
  have key : (PySem.strKind P w).is x (.str x tk) = true := strKind_is _ _ _ _
  have elm : ElemsOf (PySem.strKind P w) es.toList := tx_elems good
  unfold setAddHashed setAddHashedIn
  refine wpAny_holding (wpAny_bind (wpAny_setState_of ho hd fit ?_))
  dsimp only
  rw [byScan_of (show (Value.str x tk).scannable = true from rfl) few elm]
  simp only [↓reduceIte]
  unfold setAddByScan
  refine wpAny_bind (wpAny_bind (wpAny_rule (wpAny_bind (wpAny_setScan_of key ho hd fit elm ?_))))
  cases fi : List.findIdx? (fun e => (PySem.strKind P w).is x e.2) es.toList with
  | some j =>
    dsimp only
    obtain ⟨hj, pj, _⟩ := List.findIdx?_eq_some_iff_getElem.mp fi
    have ge := good _ (List.getElem_mem hj)
    rw [ge.is] at pj
    have inn : x ∈ es.toList.map txOf := List.mem_map.mpr ⟨es.toList[j], List.getElem_mem hj, (of_decide_eq_true pj).symm⟩
    exact wpAny_pure (wpAny_pure (hQ _ s.heap _ (Heap.SameBut.refl a s.heap) R0 (fun _ => rfl) fun z => absurd inn z))
  | none =>
    dsimp only
    have nin : x ∉ es.toList.map txOf := fun z => by
      obtain ⟨e, he, q⟩ := List.mem_map.mp z
      have c := List.findIdx?_eq_none_iff.mp fi e he
      rw [(good e he).is] at c
      exact absurd q.symm (of_decide_eq_false c)
    have gw : ∀ (b : Bool) {s₁ : Shared} {Q' : Unit → Shared → Prop}, Q' () s₁ → wpAny (model P w) A (match b with | true => rule "set.scan.the-table-gave-way" | false => pure ()) Q' E s₁ := fun b s₁ Q' q => by
      cases b
      · exact wpAny_pure q
      · exact wpAny_rule q
    have p1 := layNew_perm t es ((PySem.strKind P w).hash x) (.str x tk); have f1 := layNew_fits t es ((PySem.strKind P w).hash x) (.str x tk)
    have r1 := layNew_ris t es ((PySem.strKind P w).hash x) (.str x tk) ris; have l1 := layNew_led t es ((PySem.strKind P w).hash x) (.str x tk)
    generalize layNew t es ((PySem.strKind P w).hash x) (.str x tk) = Z at p1 f1 r1 l1 ⊢
    obtain ⟨es1, t1, wd, gave⟩ := Z
    dsimp only at p1 f1 r1 l1 ⊢
    rw [Array.toList_push] at p1
    have pc : es1.toList.Perm (((PySem.strKind P w).hash x, Value.str x tk) :: es.toList) := p1.trans (List.perm_append_singleton _ _)
    have pk : (es1.toList.map txOf).Perm (x :: es.toList.map txOf) := pc.map txOf
    have g1 : ∀ e ∈ es1.toList, TxE P w e := fun e he => by
      rcases List.mem_cons.mp (pc.mem_iff.mp he) with z | z
      · rw [z]
        exact ⟨x, tk, rfl, rfl⟩
      · exact good e z
    have n1 : (es1.toList.map txOf).Nodup := pk.nodup_iff.mpr (List.nodup_cons.mpr ⟨nin, nd⟩)
    have few1 : es1.size < scanBound := by
      have := pk.length_eq
      rw [List.length_map, Array.length_toList, List.length_cons] at this
      rw [this]
      exact room
    have led1 : w.params.followText "set-order" = true ∨ t1.led = true := by
      rcases led with z | z
      · exact .inl z
      · exact .inr (l1.trans z)
    have fin : ∀ h' ks', Heap.SameBut a s.heap h' → SetS P w h' a ks' → ks'.Perm (es1.toList.map txOf) → Q true { s with heap := h' } := fun h' ks' sb r p => hQ true h' ks' sb r (fun z => absurd z nin) fun _ => p.trans pk
    refine wpAny_bind (gw _ ?_)
    split
    · rw [hashByValue_scannable 8 (show (Value.str x tk).scannable = true from rfl)]
      refine wpAny_bind (wpAny_pure ?_)
      refine tail_tx (fun b s₁ Q' q => ?_) ho hex hd g1 n1 few1 ?_ ?_ ?_ (fun h' ks' sb r p => ?_)
      · cases b <;> first | exact wpAny_pure q | exact wpAny_rule q
      · first | (split <;> first | exact f1 | exact SetTable.fits_plain_off f1) | exact f1
      · first | (split <;> exact r1) | exact r1
      · first | (split <;> exact led1) | exact led1
      · dsimp only; exact wpAny_pure (fin h' ks' sb r p)
    · refine wpAny_bind (wpAny_pure ?_)
      simp only [↓reduceIte]
      refine tail_tx (fun b s₁ Q' q => ?_) ho hex hd g1 n1 few1 f1 r1 led1 (fun h' ks' sb r p => ?_)
      · cases b <;> first | exact wpAny_pure q | exact wpAny_rule q
      · dsimp only; exact wpAny_pure (fin h' ks' sb r p)
theorem setS_new {h : Heap} (ho : h.get? a = some (newSet w)) : SetS P w h a [] := ⟨_, #[], 0, _, ho, ⟨rfl, rfl, rfl⟩, rfl, (fun e he => by simp at he), rfl, List.nodup_nil, (by decide), (by rfl), List.Pairwise.nil, by
  cases hb : w.params.followText "set-order"
  · exact .inr rfl
  · exact .inl rfl⟩
/-- set(ys), ys a list of texts -/
theorem call_setTx {l : Addr} {items : Array Value} {ys : List Str} {Q : Value → Shared → Prop} (hh : A.handled = none) (hl : s.heap.IsList l items) (hy : StrsAre items.toList ys) (hb : ys.length + 1 < scanBound)
    (h : ∀ (h' : Heap) (tk : Nat) (ks : List Str), SetS P w h' s.heap.objs.size ks → (∀ x, x ∈ ks ↔ x ∈ ys) → (∀ b o, s.heap.get? b = some o → h'.get? b = some o) → Q (.ref s.heap.objs.size) { s with heap := h', toks := tk }) : wpAny (model P w) A (call (.type "set") [.ref l]) Q E s := by
  have sz : items.size = ys.length := by
    have := StrsAre.len_eq hy
    rw [Array.length_toList] at this
    exact this
  refine call_setL (fun i h => ∃ ks, SetS P w h s.heap.objs.size ks ∧ ks.length ≤ i ∧ ∀ x, x ∈ ks ↔ x ∈ ys.take i) hh hl (fun i h h' j k => ?_) (fun h ho _ => ⟨[], setS_new ho, Nat.le_refl _, fun x => by simp⟩) (fun A' i v s' Q' E' _ hv j q => ?_) (fun h' tk j k => ?_)
  · obtain ⟨ks, r, m⟩ := j
    exact ⟨ks, r.at fun o e => k _ o (Nat.le_refl _) e, m⟩
  · obtain ⟨ks, r, le, m⟩ := j
    have lt : i < ys.length := by
      rw [← sz]
      exact (Array.getElem?_eq_some_iff.mp hv).1
    obtain ⟨t, rfl⟩ := SS.strs_at hy i v (by rw [Array.getElem?_toList]; exact hv)
    have ey : ys.getD i Str.empty = ys[i] := by
      rw [List.getD_eq_getElem?_getD, List.getElem?_eq_getElem lt]
      rfl
    rw [ey]
    have tk1 : ys.take (i + 1) = ys.take i ++ [ys[i]] := by
      rw [List.take_add_one, List.getElem?_eq_getElem lt]
      rfl
    unfold setAdd
    refine wpAny_holding (wpAny_bind ((PySem.strKind P w).pyHash (k := ys[i]) (strKind_is _ _ _ _) ?_))
    refine add_tx (s := { s' with toks := s'.toks + 1 }) r (by omega) fun b h' ks' sb r' c1 c2 => ?_
    refine q b h' (s'.toks + 1) sb (Nat.le_succ _) ⟨ks', r', ?_, fun x => ?_⟩
    · by_cases c : ys[i] ∈ ks
      · rw [c1 c]
        omega
      · rw [(c2 c).length_eq, List.length_cons]
        omega
    · rw [tk1, List.mem_append, List.mem_singleton, ← m x]
      by_cases c : ys[i] ∈ ks
      · rw [c1 c]
        exact ⟨.inl, fun z => z.elim id fun e => e ▸ c⟩
      · rw [(c2 c).mem_iff, List.mem_cons]
        exact Or.comm
  · obtain ⟨ks, r, le, m⟩ := j
    rw [sz, List.take_length] at m
    exact h h' tk ks r m k
/-- sorted of a set of texts -/
theorem sorted_setTx {Q : Value → Shared → Prop} (R : SetS P w s.heap a ks) (hh : A.handled = none) (h64 : ks.length < 64)
    (hQ : ∀ s' p (out : Array Value) (c : Nat) (zs : List Str), (∀ b o, s.heap.get? b = some o → s'.heap.get? b = some o) → s'.gens = s.gens → s'.os = s.os → s.heap.objs.size ≤ p → s'.heap.get? p = some (seqObj "list" out c) → StrsAre out.toList zs → zs.Perm ks → sortedS zs = true → Q (.ref p) s') :
    wpAny (model P w) A (call (.builtin "sorted") [.ref a]) Q E s := by
  obtain ⟨o, es, ep, t, ho, hex, hd, good, rfl, nd, few, fit, ris, led⟩ := R
  refine Calls.call_function_entry kind_sorted plain_sorted entry_sorted (args_sorted1 _) ?_
  unfold Builtin.«sorted»
  refine wpAny_bind (m := checkCount "sorted" 1 1 _) (wpAny_pure (wpAny_bind (collect_set (A := A.in1) hh ⟨o, ho, hex.1, hd⟩ fit few ris led fun s1 vs k1 hz g1 o1 pm => ?_)))
  have vl : vs.length < 64 := by
    rw [pm.length_eq, List.length_map]
    rw [List.length_map] at h64
    exact h64
  have all : ∀ v ∈ vs, ∃ x t, v = Value.str x t := fun v hv => by
    obtain ⟨e, he, q⟩ := List.mem_map.mp (pm.mem_iff.mp hv)
    obtain ⟨x, t, e1, _⟩ := good e he
    exact ⟨x, t, by rw [← q, e1]⟩
  have hS : StrsAre vs (vs.map strOf) := strsAre_map vs all
  have pk : (vs.map strOf).Perm (es.toList.map txOf) := by
    have q := pm.map strOf
    rw [List.map_map] at q
    have e : es.toList.map (strOf ∘ fun x => x.2) = es.toList.map txOf := List.map_congr_left fun e he => by
      obtain ⟨x, t, e1, _⟩ := good e he
      show strOf e.2 = txOf e
      unfold txOf
      rw [e1]
      rfl
    rw [e] at q
    exact q
  refine wpAny_bind (wpAny_newList ?_ (by rw [sizeLine_eq]; omega))
  have at_ : (s1.heap.push (seqObj "list" vs.toArray 0)).get? s1.heap.objs.size = some (seqObj "list" vs.toArray 0) := Heap.get?_push_size _ rfl
  refine wpAny_bind (wpAny_holding (wpAny_call_entry slot_list_sort ⟨_, at_, rfl⟩ entry_list_sort (list_sort_treeK strKind_oneLt at_ hS.keysOf (fun v₁ v₂ rest e => keyKind_strs (by rw [← e]; exact hS)) vl fun st' hp hs => ⟨_, rfl, ?_⟩) (args_list_sort _)))
  obtain ⟨zs, z1, z2, z3⟩ := sorted_out_str hS hp hs
  obtain ⟨c, hc⟩ := sortedHeap_at (vs := vs) (out := (arrOf st').map (·.2)) at_
  refine wpAny_pure ⟨_, rfl, hQ _ s1.heap.objs.size _ c zs (fun b u e => ?_) g1 o1 hz hc z1 (z2.trans pk) z3⟩
  have lt := Heap.lt_size (k1 b u e)
  exact (sortedHeap_old (Nat.ne_of_lt lt) (by rw [size_push']; exact Nat.lt_succ_of_lt lt)).trans (Heap.get?_push_of_some _ (k1 b u e))
end
section
variable {X : Cx}
theorem nodup_le {α : Type} [DecidableEq α] : ∀ (l D : List α), l.Nodup → (∀ x ∈ l, x ∈ D) → l.length ≤ D.length
  | [], _, _, _ => Nat.zero_le _
  | x :: l, D, hn, hs => by
    obtain ⟨h1, h2⟩ := List.nodup_cons.mp hn
    have hx : x ∈ D := hs x List.mem_cons_self
    have ih := nodup_le l (D.erase x) h2 fun y hy => (List.mem_erase_of_ne (fun e : y = x => h1 (e ▸ hy))).2 (hs y (List.mem_cons_of_mem _ hy))
    have e := List.length_erase_of_mem hx
    have hp : 0 < D.length := List.length_pos_of_mem hx
    rw [List.length_cons]
    omega
/-- sorted(set(ys)), ys a list of texts, all of them of a few -/
def tSortSet (K : PySem.W.Frag) (ta : TE) : TE := fun σ H Q => ta σ H fun x H1 => ∃ (l : Addr) (ys D : List Str), x = .ref l ∧ SqL K H1 l (ys.map V.str) ∧ ys.length ≤ 4000 ∧ D.length < 64 ∧ (∀ y ∈ ys, y ∈ D) ∧
  ∀ (zs : List Str) (p : Addr), zs.Nodup → sortedS zs = true → (∀ z, z ∈ zs ↔ z ∈ ys) → H1 p = none → Q (.ref p) (upd H1 p (.lst (zs.map V.str)))
theorem pe_sortSet {a : Expr} {ta : TE} {p p2 q pos : Pos} (hg : Gl X "sorted") (hm : X.mg "sorted" = none) (hg2 : Gl X "set") (hm2 : X.mg "set" = none) (ha : PE X a ta) (hc : X.calm = true := by rfl)
    (na : starEach [a] X.env = (false, eval a X.env) :: starEach [] X.env := by rfl) : PE X (.Call (.Name "sorted" p) [.Call (.Name "set" p2) [a] [] q] [] pos) (tSortSet X.K ta) := by
  refine ⟨fun pins s σ H Q I h => ?_⟩
  refine Call_ (ld_blt I hg hm boot_sorted (PyProof.Rows.callWith_builtin1 (PyProof.Rows.args_cons ?_ rfl) rfl rfl))
  refine Call_ (ld_blt I hg2 hm2 boot_set (PyProof.Rows.callWith_type1 (PyProof.Rows.args_cons (thn (ha.run pins s σ H _ I h) fun v s1 z => PyProof.Rows.args_nil ?_) na) na rfl))
  obtain ⟨x, H1, I1, r1, l, ys, D, rfl, hq, hl, hD, sub, q1⟩ := z
  cases r1
  obtain ⟨its, r, pl, hz⟩ := I1.list hq
  have ln : its.length = ys.length := by rw [← r.length, List.length_map]
  refine call_setTx (I1.ok.hd hc) pl.isList (ys := ys) (by simpa using r.strs) (by unfold scanBound; omega) fun h' tk ks S mem keep => PyProof.Rows.args_nil ?_
  have I2 : Inv X pins σ H1 { s1 with heap := h', toks := tk } := I1.kept fun b o e => keep b o e
  have nd : ks.Nodup := by
    obtain ⟨_, _, _, _, _, _, _, _, _, nd, _⟩ := S
    exact nd
  have few : ks.length < 64 := Nat.lt_of_le_of_lt (nodup_le ks D nd fun x hx => sub x ((mem x).1 hx)) hD
  refine sorted_setTx (s := { s1 with heap := h', toks := tk }) S (I1.ok.hd hc) few fun s' p out c zs k g o hp hg' hi pm so => ?_
  have hlen : (zs.map V.str).length ≤ sizeLine := by
    rw [List.length_map, pm.length_eq, sizeLine_eq]
    omega
  have hn : H1 p = none := I2.hok.fresh hp
  have J : Inv X pins σ (upd H1 p (.lst (zs.map V.str))) { ({ s1 with heap := h', toks := tk } : Shared) with heap := s'.heap, gens := s'.gens, drawn := s'.drawn, toks := s'.toks } :=
    I2.call (ch := []) (Un.laid k hp hn) (I2.hok.laid k hp ⟨hlen, out.toList, c, vals_of_strs hi, hg'⟩) (by rw [g]; exact I2.bare) (fun _ z => nomatch z)
  have e : s' = { ({ s1 with heap := h', toks := tk } : Shared) with heap := s'.heap, gens := s'.gens, drawn := s'.drawn, toks := s'.toks } := by
    cases s'
    cases s1
    cases o
    rfl
  rw [e]
  exact ⟨.ref p, _, J, rfl, q1 zs p (pm.nodup_iff.mpr nd) so (fun z => by rw [pm.mem_iff, mem z]) hn⟩
end
end Pb

namespace Pb
open PySem PySem.Spec PyProof.Rows L2 TL
/-! ### xs.extend(tuple) -/
theorem meets_extT (l b : Addr) (xs ys : Array Value) (n m : Nat) (dct : Option Addr) (sl : Array (Option Value)) (h0 : ¬(!xs.isEmpty && Builtin.List.listTooLong (xs.size + ys.size)) = true) (h1 : xs.size ≤ sizeLine) (h2 : xs.size + ys.size ≤ sizeLine + 1) :
    Meets (Builtin.«list.extend» ⟨[.ref l, .ref b], []⟩) (fun _ R s => s.heap.get? l = some { cls := .type "list", dict := none, data := .seq xs n, slots := #[] } ∧ s.heap.get? b = some { cls := .type "tuple", dict := dct, data := .seq ys m, slots := sl } ∧ R (.ok (.ret Value.none)) { s with heap := s.heap.update l (Obj.mapSeq fun x => x ++ ys), toks := s.toks }) :=
  .of_wp fun prog w A R s h => by
    obtain ⟨hp, g, d, tk, os⟩ := s
    obtain ⟨hl, hb, h⟩ := h
    have f1 := AutoSeq1.idx_int; have f2 := AutoSeq1.sub_tuple_tuple; have f3 := AutoSeq1.sub_list_list
    have f4 := AutoSeq1.sub_tuple_list; have f5 := AutoSeq1.sub_list_tuple
    have hz : (xs ++ ys).size ≤ sizeLine + 1 := by rw [Array.size_append]; exact h2
    wp_walk using (wpAny_updateSeq hl rfl (hz := h1) (_hz' := hz)), AutoSeq1.wpAny_loadPart' hl, AutoSeq1.wpAny_loadPart' hb
    exact ⟨_, rfl, h⟩
def rExtT (K : PySem.W.Frag) : V → List V → Hp → VK → Prop := fun x vs H Q => ∃ l b xs zs, x = .ref l ∧ vs = [.ref b] ∧ H l = some (.lst xs) ∧ SqT K H b zs ∧ xs.length + zs.length ≤ sizeLine ∧ Q .non (upd H l (.lst (xs ++ zs)))
theorem mt_extT {X : Cx} : MtM X "list.extend" (rExtT X.K) := by
  intro pins s σ H x vs v us Q I rx rv h
  obtain ⟨l, b, xs, zs, rfl, rfl, hH, hB, hz, q⟩ := h
  cases rx
  obtain ⟨u, rfl, ru⟩ := rv.one
  cases ru
  obtain ⟨z, its, n, r, hl, e⟩ := I.lstM hH
  obtain ⟨its2, r2, ⟨⟨oc, od, oo, osl⟩, e2, hc, m, hd⟩, z2⟩ := I.tuple hB
  dsimp only at hc hd
  subst hc hd
  have l2 := r2.length
  have hsz : its.toArray.size + its2.toArray.size ≤ sizeLine := by rw [List.size_toArray, List.size_toArray]; omega
  refine call_meets F.slot_list_extend ⟨_, e, rfl⟩ F.entry_list_extend (F.args_list_extend_2 _ _) (meets_extT l b its.toArray its2.toArray n m od osl (by rw [notLongL hsz, Bool.and_false]; exact Bool.false_ne_true) (by rw [List.size_toArray]; omega) (by omega)) ⟨e, e2, ?_⟩
  refine ⟨.non, _, I.lset (its' := its ++ its2) hH e (by simp) (r.append r2) ?_, rfl, q⟩
  rw [List.length_append]
  omega
/-! ### data of tuples, texts and numbers: what no store can change -/
mutual
inductive Dt (H : Hp) : V → PyData → Prop
  | non : Dt H .non .none
  | bl (b : Bool) : Dt H (.bl b) (.bool b)
  | int (i : Int) : Dt H (.int i) (.int i)
  | str (x : Str) : Dt H (.str x) (.str x)
  | tup {a : Addr} {vs : List V} {ds : List PyData} (h : H a = some (.tup vs)) (t : DtAll H vs ds) : Dt H (.ref a) (.tuple ds)
inductive DtAll (H : Hp) : List V → List PyData → Prop
  | nil : DtAll H [] []
  | cons {v : V} {d : PyData} {vs : List V} {ds : List PyData} (h : Dt H v d) (t : DtAll H vs ds) : DtAll H (v :: vs) (d :: ds)
end
/-- tuples stay -/
def TK (H H' : Hp) : Prop := ∀ a vs, H a = some (.tup vs) → H' a = some (.tup vs)
theorem TK.refl (H : Hp) : TK H H := fun _ _ h => h
theorem TK.trans {H H' H'' : Hp} (a : TK H H') (b : TK H' H'') : TK H H'' := fun x v h => b x v (a x v h)
theorem Same.tk {H H' : Hp} (s : Same H H') : TK H H' := fun a vs h => s a _ h
theorem Kp.tk {d : Addr} {n : Nat} {H H' : Hp} (k : Kp d H H') (dr : Dr H d n) : TK H H' := fun a vs h => k.tup dr h
theorem tk_updL {H : Hp} {r : Addr} {xs : List V} {o : HO} (e : H r = some (.lst xs)) : TK H (upd H r o) := fun a vs h => by
  rw [upd_ne (ne_of h e (by intro z; cases z))]
  exact h
mutual
theorem Dt.tk {H H' : Hp} (s : TK H H') : ∀ {v : V} {d : PyData}, Dt H v d → Dt H' v d
  | _, _, .non => .non
  | _, _, .bl b => .bl b
  | _, _, .int i => .int i
  | _, _, .str x => .str x
  | _, _, .tup h t => .tup (s _ _ h) (DtAll.tk s t)
theorem DtAll.tk {H H' : Hp} (s : TK H H') : ∀ {v : List V} {d : List PyData}, DtAll H v d → DtAll H' v d
  | _, _, .nil => .nil
  | _, _, .cons a b => .cons (Dt.tk s a) (DtAll.tk s b)
end
mutual
theorem Dt.dp {K : PySem.W.Frag} {H : Hp} : ∀ {v : V} {d : PyData}, Dt H v d → Dp K H v d
  | _, _, .non => .non
  | _, _, .bl b => .bl b
  | _, _, .int i => .int i
  | _, _, .str x => .str x
  | _, _, .tup h t => .tup (.of h) (DtAll.dp t)
theorem DtAll.dp {K : PySem.W.Frag} {H : Hp} : ∀ {v : List V} {d : List PyData}, DtAll H v d → DpAll K H v d
  | _, _, .nil => .nil
  | _, _, .cons a b => .cons (Dt.dp a) (DtAll.dp b)
end
theorem DtAll.len {H : Hp} : ∀ {v : List V} {d : List PyData}, DtAll H v d → v.length = d.length
  | _, _, .nil => rfl
  | _, _, .cons _ b => congrArg Nat.succ (DtAll.len b)
theorem DtAll.app {H : Hp} : ∀ {v u : List V} {d e : List PyData}, DtAll H v d → DtAll H u e → DtAll H (v ++ u) (d ++ e)
  | _, _, _, _, .nil, h => h
  | _, _, _, _, .cons a b, h => .cons a (DtAll.app b h)
theorem DtAll.get {H : Hp} : ∀ {vs : List V} {ds : List PyData}, DtAll H vs ds → ∀ (i : Nat) (d : PyData), ds[i]? = some d → ∃ v, vs[i]? = some v ∧ Dt H v d
  | _, _, .nil, i, d, h => by simp at h
  | _, _, .cons (v := v) a b, 0, d, h => by
    have e := Option.some.inj h
    subst e
    exact ⟨v, rfl, a⟩
  | _, _, .cons a b, i + 1, d, h => DtAll.get b i d h
theorem DtAll.getV {H : Hp} : ∀ {vs : List V} {ds : List PyData}, DtAll H vs ds → ∀ (i : Nat) (v : V), vs[i]? = some v → ∃ d, ds[i]? = some d ∧ Dt H v d
  | _, _, .nil, i, d, h => by simp at h
  | _, _, .cons (d := d) a b, 0, v, h => by
    have e := Option.some.inj h
    subst e
    exact ⟨d, rfl, a⟩
  | _, _, .cons a b, i + 1, d, h => DtAll.getV b i d h
theorem DtAll.take {H : Hp} : ∀ {vs : List V} {ds : List PyData}, DtAll H vs ds → ∀ n, DtAll H (vs.take n) (ds.take n)
  | _, _, .nil, n => by simpa using DtAll.nil
  | _, _, .cons a b, 0 => .nil
  | _, _, .cons a b, n + 1 => .cons a (DtAll.take b n)
theorem DtAll.drop {H : Hp} : ∀ {vs : List V} {ds : List PyData}, DtAll H vs ds → ∀ n, DtAll H (vs.drop n) (ds.drop n)
  | _, _, .nil, n => by simpa using DtAll.nil
  | _, _, .cons a b, 0 => .cons a b
  | _, _, .cons a b, n + 1 => DtAll.drop b n
theorem Dt.tup' {H : Hp} {v : V} {ds : List PyData} (h : Dt H v (.tuple ds)) : ∃ a vs, v = .ref a ∧ H a = some (.tup vs) ∧ DtAll H vs ds := by
  cases h with
  | tup h t => exact ⟨_, _, rfl, h, t⟩
theorem Dt.str' {H : Hp} {v : V} {x : Str} (h : Dt H v (.str x)) : v = .str x := by
  cases h
  rfl
theorem Dt.int' {H : Hp} {v : V} {i : Int} (h : Dt H v (.int i)) : v = .int i := by
  cases h
  rfl
theorem DtAll.nil' {H : Hp} {vs : List V} (h : DtAll H vs []) : vs = [] := by
  cases h
  rfl
theorem DtAll.cons' {H : Hp} {vs : List V} {d : PyData} {ds : List PyData} (h : DtAll H vs (d :: ds)) : ∃ v r, vs = v :: r ∧ Dt H v d ∧ DtAll H r ds := by
  cases h with
  | cons a b => exact ⟨_, _, rfl, a, b⟩
theorem DtAll.strs {H : Hp} : ∀ {vs : List V} {xs : List Str}, DtAll H vs (xs.map .str) → vs = xs.map V.str
  | vs, [], h => h.nil'
  | vs, x :: xs, h => by
    obtain ⟨v, r, rfl, a, b⟩ := h.cons'
    rw [a.str', DtAll.strs b]
    rfl
theorem dtAll_strs {H : Hp} : ∀ (xs : List Str), DtAll H (xs.map V.str) (xs.map .str)
  | [] => .nil
  | x :: xs => .cons (.str x) (dtAll_strs xs)
theorem DtAll.ints {H : Hp} : ∀ {vs : List V} {xs : List Int}, DtAll H vs (xs.map .int) → vs = xs.map V.int
  | vs, [], h => h.nil'
  | vs, x :: xs, h => by
    obtain ⟨v, r, rfl, a, b⟩ := h.cons'
    rw [a.int', DtAll.ints b]
    rfl
theorem DtAll.snoc {H : Hp} {vs : List V} {ds : List PyData} {v : V} {d : PyData} (h : DtAll H vs ds) (a : Dt H v d) : DtAll H (vs ++ [v]) (ds ++ [d]) := h.app (.cons a .nil)
/-- a list of such data -/
def LD (H : Hp) (r : Addr) (ds : List PyData) : Prop := ∃ vs, H r = some (.lst vs) ∧ DtAll H vs ds
theorem LD.same {H H' : Hp} {r : Addr} {ds : List PyData} (h : LD H r ds) (s : Same H H') : LD H' r ds := by
  obtain ⟨vs, e, t⟩ := h
  exact ⟨vs, s _ _ e, t.tk (Same.tk s)⟩
theorem LD.kp {d : Addr} {n : Nat} {H H' : Hp} {r : Addr} {ds : List PyData} (h : LD H r ds) (k : Kp d H H') (dr : Dr H d n) : LD H' r ds := by
  obtain ⟨vs, e, t⟩ := h
  exact ⟨vs, k.lst dr e, t.tk (k.tk dr)⟩
theorem LD.dp {K : PySem.W.Frag} {H : Hp} {r : Addr} {ds : List PyData} (h : LD H r ds) : Dp K H (.ref r) (.list ds) := by
  obtain ⟨vs, e, t⟩ := h
  exact .lst (.of e) t.dp
theorem LD.strs {H : Hp} {r : Addr} {xs : List Str} (h : LD H r (xs.map .str)) : H r = some (.lst (xs.map V.str)) := by
  obtain ⟨vs, e, t⟩ := h
  rw [e, t.strs]
theorem LD.push {H : Hp} {r : Addr} {ds : List PyData} {v : V} {d : PyData} {vs : List V} (e : H r = some (.lst vs)) (t : DtAll H vs ds) (a : Dt H v d) : LD (upd H r (.lst (vs ++ [v]))) r (ds ++ [d]) := ⟨vs ++ [v], upd_same, (t.tk (tk_updL e)).snoc (a.tk (tk_updL e))⟩
theorem same_mut {H H' : Hp} {r : Addr} {o : HO} (s : Same H H') (h : H r = none) : Same H (upd H' r o) := fun a u e => by
  rw [upd_ne (ne_none e h)]
  exact s a u e
theorem same_none {H H' : Hp} {r : Addr} (s : Same H H') (h : H' r = none) : H r = none := none_of s h
/-- a comprehension that only makes new things, over anything that is walked -/
theorem lc_gen {J : It} {n : Nat} {G : Hp → Prop} {Y : Nat → Hp → V → Hp → Prop} (W : Walk J n G Y) {α : Type} {xs : List α} {f gd : α → PyData} {p : α → Bool} {g : TG} {tt : TT} {te : TE} {own : List Nat} {σ : L2.St} {H : Hp} {Q : VK} (hn : xs.length = n) (hs : n ≤ 20000) (hG : ∀ H1, Same H H1 → G H1)
    (hY : ∀ i a H1 x H2, xs[i]? = some a → Same H H1 → Y i H1 x H2 → Same H1 H2 ∧ Dt H2 x (f a))
    (turn : ∀ (a : α) (x : V) (H1 : Hp) (N1 : V → Hp → Prop) (N0 : Hp → Prop), a ∈ xs → Same H H1 → Dt H1 x (f a) → (∀ y H4, Same H1 H4 → p a = true → Dt H4 y (gd a) → N1 y H4) → (∀ H3, Same H1 H3 → p a = false → N0 H3) →
      g x (wipe σ own) H1 fun σ2 H2 => wipe σ2 own = wipe σ own ∧ tt σ2 H2 fun b H3 => if b = true then te σ2 H3 fun y H4 => N1 y H4 else N0 H3)
    (q : ∀ H' D, Same H H' → H D = none → LD H' D ((xs.filter p).map gd) → Q (.ref D) H') : tLc (fun _ H R => R J H) g tt te own σ H Q := by
  intro D nD
  refine lc_it W (fun k H' => Same H H' ∧ LD H' D (((xs.take k).filter p).map gd)) ⟨same_upd nD, [], upd_same, .nil⟩ (fun i H' _ pv => hG H' pv.1) (fun i x Ha Hb hi pv y => ?_) fun H' pv => ?_
  · obtain ⟨sm, vs, eD, t⟩ := pv
    have lt : i < xs.length := by omega
    have ga := List.getElem?_eq_getElem lt
    obtain ⟨s1, dx⟩ := hY i _ Ha x Hb ga sm y
    have mem : xs[i] ∈ xs := List.getElem_mem lt
    generalize xs[i] = a at ga dx mem
    have tk : (xs.take (i + 1)).filter p = (xs.take i).filter p ++ (if p a = true then [a] else []) := by
      rw [List.take_add_one, ga, List.filter_append]
      congr 1
      show List.filter _ [a] = _
      rw [List.filter_cons, List.filter_nil]
    have sv : vs.length < sizeLine := by
      have l1 := t.len
      rw [List.length_map] at l1
      have l2 := List.length_filter_le p (xs.take i)
      rw [List.length_take] at l2
      exact len20k (by omega)
    refine turn a x Hb _ _ mem (sm.trans s1) dx (fun y H4 s4 pa dy => ⟨vs, s4 _ _ (s1 _ _ eD), sv, ?_, ?_⟩) (fun H3 s3 pa => ⟨(sm.trans s1).trans s3, ?_⟩)
    · exact same_mut ((sm.trans s1).trans s4) nD
    · rw [tk, if_pos pa, List.map_append]
      exact LD.push (s4 _ _ (s1 _ _ eD)) (t.tk (Same.tk (s1.trans s4))) dy
    · rw [tk, if_neg (by rw [pa]; exact Bool.false_ne_true), List.append_nil]
      exact ⟨vs, s3 _ _ (s1 _ _ eD), t.tk (Same.tk (s1.trans s3))⟩
  · obtain ⟨sm, l⟩ := pv
    rw [← hn, List.take_length] at l
    exact q H' D sm nD l
theorem yAt {H H1 H2 : Hp} {α : Type} {xs : List α} {f : α → PyData} {vs : List V} (t : DtAll H vs (xs.map f)) {i : Nat} {a : α} {x : V} (ga : xs[i]? = some a) (s : Same H H1) (y : YAt vs i H1 x H2) : Same H1 H2 ∧ Dt H2 x (f a) := by
  obtain ⟨rfl, gx⟩ := y
  obtain ⟨v, gv, dv⟩ := t.get i (f a) (by rw [List.getElem?_map, ga]; rfl)
  rw [gv] at gx
  cases gx
  exact ⟨Same.refl _, dv.tk (Same.tk s)⟩
/-- .. over a tuple -/
theorem lc_tup {K : PySem.W.Frag} {s0 : Addr} {α : Type} {xs : List α} {f gd : α → PyData} {p : α → Bool} {g : TG} {tt : TT} {te : TE} {own : List Nat} {σ : L2.St} {H : Hp} {Q : VK} {vs : List V} (es : H s0 = some (.tup vs)) (t : DtAll H vs (xs.map f)) (hs : xs.length ≤ 20000)
    (turn : ∀ (a : α) (x : V) (H1 : Hp) (N1 : V → Hp → Prop) (N0 : Hp → Prop), a ∈ xs → Same H H1 → Dt H1 x (f a) → (∀ y H4, Same H1 H4 → p a = true → Dt H4 y (gd a) → N1 y H4) → (∀ H3, Same H1 H3 → p a = false → N0 H3) →
      g x (wipe σ own) H1 fun σ2 H2 => wipe σ2 own = wipe σ own ∧ tt σ2 H2 fun b H3 => if b = true then te σ2 H3 fun y H4 => N1 y H4 else N0 H3)
    (q : ∀ H' D, Same H H' → H D = none → LD H' D ((xs.filter p).map gd) → Q (.ref D) H') : tLc (fun _ H R => R (Itt K s0) H) g tt te own σ H Q := by
  have ln : xs.length = vs.length := by rw [t.len, List.length_map]
  exact lc_gen (walk_tup (K := K) (a := s0) (xs := vs)) ln (by omega) (fun H1 s => .of (s _ _ es)) (fun i a H1 x H2 ga s y => yAt t ga s y) turn q
/-- .. over a list -/
theorem lc_lst {K : PySem.W.Frag} {s0 : Addr} {α : Type} {xs : List α} {f gd : α → PyData} {p : α → Bool} {g : TG} {tt : TT} {te : TE} {own : List Nat} {σ : L2.St} {H : Hp} {Q : VK} {vs : List V} (es : H s0 = some (.lst vs)) (t : DtAll H vs (xs.map f)) (hs : xs.length ≤ 20000)
    (turn : ∀ (a : α) (x : V) (H1 : Hp) (N1 : V → Hp → Prop) (N0 : Hp → Prop), a ∈ xs → Same H H1 → Dt H1 x (f a) → (∀ y H4, Same H1 H4 → p a = true → Dt H4 y (gd a) → N1 y H4) → (∀ H3, Same H1 H3 → p a = false → N0 H3) →
      g x (wipe σ own) H1 fun σ2 H2 => wipe σ2 own = wipe σ own ∧ tt σ2 H2 fun b H3 => if b = true then te σ2 H3 fun y H4 => N1 y H4 else N0 H3)
    (q : ∀ H' D, Same H H' → H D = none → LD H' D ((xs.filter p).map gd) → Q (.ref D) H') : tLc (fun _ H R => R (Itl K s0) H) g tt te own σ H Q := by
  have ln : xs.length = vs.length := by rw [t.len, List.length_map]
  exact lc_gen (walk_list (K := K) (a := s0) (xs := vs)) ln (by omega) (fun H1 s => .of (s _ _ es)) (fun i a H1 x H2 ga s y => yAt t ga s y) turn q
/-- .. over range(n) -/
theorem lc_rng {n : Nat} {gd : Nat → PyData} {p : Nat → Bool} {g : TG} {tt : TT} {te : TE} {own : List Nat} {σ : L2.St} {H : Hp} {Q : VK} (hs : n ≤ 20000)
    (turn : ∀ (a : Nat) (x : V) (H1 : Hp) (N1 : V → Hp → Prop) (N0 : Hp → Prop), a ∈ List.range n → Same H H1 → Dt H1 x (.int (0 + (a : Nat))) → (∀ y H4, Same H1 H4 → p a = true → Dt H4 y (gd a) → N1 y H4) → (∀ H3, Same H1 H3 → p a = false → N0 H3) →
      g x (wipe σ own) H1 fun σ2 H2 => wipe σ2 own = wipe σ own ∧ tt σ2 H2 fun b H3 => if b = true then te σ2 H3 fun y H4 => N1 y H4 else N0 H3)
    (q : ∀ H' D, Same H H' → H D = none → LD H' D (((List.range n).filter p).map gd) → Q (.ref D) H') : tLc (fun _ H R => R (Itr 0 n) H) g tt te own σ H Q := by
  refine lc_gen (f := fun k : Nat => .int (0 + (k : Nat))) (walk_range (lo := 0) (n := n)) List.length_range hs (fun _ _ => trivial) (fun i a H1 x H2 ga s y => ?_) turn q
  obtain ⟨rfl, rfl⟩ := y
  have lt := (List.getElem?_eq_some_iff.mp ga).1
  rw [List.getElem?_eq_getElem lt] at ga
  have e : i = a := by simpa using ga
  subst e
  exact ⟨Same.refl _, .int _⟩
end Pb

namespace Pb
open PySem PySem.Spec PyProof.Rows L2 TL
/-! ### defs as they are known -/
/-- the def of that name keeps its promise -/
def Kn (P : Program) (w : World) (K : PySem.W.Frag) (mg : Str → Option Value) (base : Heap) (x : Str) (k : Nat) (ps : List Str) (sp : Sp) : Prop :=
  ∃ (f : Addr) (fd : FuncData), PySem.W.keepIn K (.ref f) = true ∧ mg x = some (.ref f) ∧ Binds K fd ps [] ∧ FnG P w K mg base CX0 k f fd ps sp
/-- the def st stands at the name x -/
def Df (K : PySem.W.Frag) (mg : Str → Option Value) (x : Str) (st : Stmt) : Prop := ∃ f fd, FnD K x st [] f fd ∧ mg x = some (.ref f)
section
variable {X : Cx} {k : Nat} {ps : List Str} {sp : Sp} {x : Str} {p pos : Pos} {e : Expr} {es : List Expr} {t : TA}
theorem pe_kn (N : Kn X.prog X.w X.K X.mg X.base x k ps sp) (gd : X.A.guards = some []) (hr : Room k X.A) (hg : Gl X x) (ha : PA X (e :: es) t) (hdb : (x == ("__debug__" : Str)) = false := by decide)
    (he : starEach (e :: es) X.env = (false, eval e X.env) :: starEach es X.env := by rfl) (hpl : (backTo pos (starEach es X.env)).any (·.1) = false := by rfl) : PE X (.Call (.Name x p) (e :: es) [] pos) (tCall sp [] E0 t) := by
  obtain ⟨f, fd, kp, g, b, G⟩ := N
  exact pe_callG G gd hr hg g kp b .nil pass0 ha hdb he hpl
end
section
variable {P : Program} {w : World} {K : PySem.W.Frag} {mg : Str → Option Value} {base : Heap} {x : Str} {st : Stmt} {k : Nat} {N ps : List Str} {sp : Sp}
theorem Df.kn (D : Df K mg x st) (S : FnScope N ps (defScope st)) (hb : ∀ (kV doc pm : Value) (an : Option Addr) (cdv ct : Value) (us : List Value), us.length = ps.length → bindArgs (PySem.W.fnOf x x (defArgs st) (defBody st) (defScope st) .none kV doc pm an cdv ct) ⟨us, []⟩ = pure (ps.zip us))
    (len : ∀ vs H Q E, sp vs H Q E → vs.length = ps.length)
    (hbody : ∀ (f : Addr) (cdv : Value) (A : Around) (outer : List Env) (s : Shared) (H : Hp) (vs : List V) (Q : VK) (E : XK), A.guards = some [] → Room k (A.deeper (envOfC x (defScope st) s.heap.objs.size f cdv)) → sp vs H Q E →
      ∃ t, PSs (cxOf CX0 P w K mg base N x (defScope st) f cdv A outer s H E) (defBody st) t ∧ t { nx := fun _ H' => Q .non H', rt := Q } (start N vs) H) : Kn P w K mg base x (k + 1) ps sp := by
  obtain ⟨f, fd, F, g⟩ := D
  exact ⟨f, fd, F.kp, g, F.bindsN hb, fnG_of F S len (hbody f)⟩
theorem Kn.mono {j : Nat} (N : Kn P w K mg base x k ps sp) (h : k ≤ j) : Kn P w K mg base x j ps sp := by
  obtain ⟨f, fd, kp, g, b, G⟩ := N
  exact ⟨f, fd, kp, g, b, G.mono h⟩
end
/-- the built-ins are what they were -/
structure BG (mg : Str → Option Value) : Prop where
  len : mg "len" = none
  range : mg "range" = none
  tuple : mg "tuple" = none
  list : mg "list" = none
  sum : mg "sum" = none
  min : mg "min" = none
  max : mg "max" = none
  repr : mg "repr" = none
  sorted : mg "sorted" = none
  set : mg "set" = none
  isinstance : mg "isinstance" = none
  enumerate : mg "enumerate" = none
  zip : mg "zip" = none
  str : mg "str" = none
  int : mg "int" = none
  all : mg "all" = none
theorem bt_tuple : bootBuiltins "tuple" = some (.type "tuple") := by decide +kernel
theorem bt_list : bootBuiltins "list" = some (.type "list") := by decide +kernel
theorem bt_sum : bootBuiltins "sum" = some (.builtin "sum") := by decide +kernel
theorem bt_min : bootBuiltins "min" = some (.builtin "min") := by decide +kernel
theorem bt_max : bootBuiltins "max" = some (.builtin "max") := by decide +kernel
/-! readings by name -/
def rTupOf (K : PySem.W.Frag) : List V → Hp → VK → Prop := fun xs H Q => ∃ p ys, xs = [.ref p] ∧ ((SqL K H p ys ∧ ∀ l, H l = none → Q (.ref l) (upd H l (.tup ys))) ∨ (SqT K H p ys ∧ Q (.ref p) H))
def rListOf (K : PySem.W.Frag) : List V → Hp → VK → Prop := fun xs H Q => ∃ p ys, xs = [.ref p] ∧ (SqL K H p ys ∨ SqT K H p ys) ∧ ∀ l, H l = none → Q (.ref l) (upd H l (.lst ys))
def rLenQ (K : PySem.W.Frag) : List V → Hp → VK → Prop := fun xs H Q => ∃ p ys, xs = [V.ref p] ∧ (SqL K H p ys ∨ SqT K H p ys) ∧ Q (V.int (ys.length : Nat)) H
def rMin2 : List V → Hp → VK → Prop := fun xs H Q => ∃ i j, xs = [.int i, .int j] ∧ Q (.int (if j < i then j else i)) H
def rMax2 : List V → Hp → VK → Prop := fun xs H Q => ∃ i j, xs = [.int i, .int j] ∧ Q (.int (if j > i then j else i)) H
/-- repr(x) of data at any depth, of a text, a number, None too -/
def rReprA (K : PySem.W.Frag) : List V → Hp → VK → Prop := fun xs H Q => ∃ (v : V) (d : PyData) (n k : Nat), xs = [v] ∧ Dp K H v d ∧ Sm n k d ∧ n ≤ 1048576 ∧ k ≤ 60 ∧ Q (.str d.shown) H
theorem call_reprA {X : Cx} {j : Nat} (gd : X.A.guards = some []) (hr : Room j X.A) : CallR X (.builtin "repr") (rReprA X.K) := by
  intro pins s σ H xs us Q I r hyp
  obtain ⟨v, d, n, k, rfl, dp, sm, hn, hk, q⟩ := hyp
  obtain ⟨u, rfl, rx⟩ := vals1 r
  cases dp with
  | non =>
    cases rx
    exact PySem.P.repr_of_none ⟨.str "None", H, I.tok _, ⟨_, rfl⟩, q⟩
  | bl b =>
    cases rx
    cases b
    · exact PySem.P.repr_of_bool ⟨.str (PyData.shown (.bool false)), H, I.tok _, ⟨_, rfl⟩, q⟩
    · exact PySem.P.repr_of_bool ⟨.str (PyData.shown (.bool true)), H, I.tok _, ⟨_, rfl⟩, q⟩
  | int i =>
    obtain ⟨t, rfl⟩ := rx
    exact PySem.P.repr_of_int (of_decide_eq_true sm.sh) ⟨.str (PyData.shown (.int i)), H, I.tok _, ⟨_, rfl⟩, q⟩
  | str x =>
    obtain ⟨t, rfl⟩ := rx
    exact PySem.P.repr_of_str ⟨.str (PyData.shown (.str x)), H, I.tok _, ⟨_, rfl⟩, q⟩ (sm.fits hn)
  | lst h t => exact call_repr gd hr pins s σ H _ _ Q I r ⟨_, _, rfl, .lst h t, sm.sh, sm.nd, Nat.le_trans sm.dp hk, sm.fits hn, q⟩
  | tup h t => exact call_repr gd hr pins s σ H _ _ Q I r ⟨_, _, rfl, .tup h t, sm.sh, sm.nd, Nat.le_trans sm.dp hk, sm.fits hn, q⟩
theorem SmA.le {n k n' k' : Nat} {ds : List PyData} (h : SmA n k ds) (hn : n ≤ n') (hk : k ≤ k') : SmA n' k' ds := ⟨h.sh, h.ls, h.nd, Nat.le_trans h.dp hk, Nat.le_trans h.bk hn⟩
theorem Sm.le {n k n' k' : Nat} {d : PyData} (h : Sm n k d) (hn : n ≤ n') (hk : k ≤ k') : Sm n' k' d := ⟨h.sh, h.ls, h.nd, Nat.le_trans h.dp hk, Nat.le_trans h.bk hn⟩
theorem sm_sh {y : Str} {j : Nat} (h : Sh j y) : Sm j 0 (.str y) := by
  refine Sm.str ?_ ?_
  · rw [List.all_eq_true]
    intro c hc
    exact decide_eq_true (Nat.lt_trans (h.1 c hc) (by decide))
  · have : y.cps.size = (tl y).length := Array.length_toList.symm
    rw [this]
    exact h.2
theorem sm_all {n k : Nat} : ∀ (ds : List PyData), (∀ d ∈ ds, Sm n k d) → SmA ((n + 1) * ds.length) k ds
  | [], _ => ⟨rfl, rfl, rfl, Nat.zero_le _, Nat.zero_le _⟩
  | d :: ds, h => by
    have a := SmA.cons (h d List.mem_cons_self) (sm_all ds fun e he => h e (List.mem_cons_of_mem _ he))
    refine a.le ?_ (by omega)
    rw [List.length_cons, Nat.mul_succ]
    omega
theorem sm_map {α : Type} {n k m : Nat} {f : α → PyData} (xs : List α) (h : ∀ x ∈ xs, Sm n k (f x)) (hl : xs.length ≤ m) : SmA ((n + 1) * m) k (xs.map f) := by
  refine (sm_all (n := n) (xs.map f) fun d hd => ?_).le ?_ (Nat.le_refl _)
  · obtain ⟨x, hx, rfl⟩ := List.mem_map.mp hd
    exact h x hx
  · rw [List.length_map]
    exact Nat.mul_le_mul_left _ hl
theorem Sm.non : Sm 0 0 .none := ⟨rfl, by decide, rfl, Nat.le_refl _, Nat.le_refl _⟩
theorem lc_in {wi : TI} {g : TG} {tt : TT} {te : TE} {own : List Nat} {σ : L2.St} {H : Hp} {Q : VK} (h : wi σ H fun J H1 => tLc (fun _ H R => R J H) g tt te own σ H1 Q) : tLc wi g tt te own σ H Q := h
theorem asgE_go {te : TE} {g : TG} {D : Ends} {σ : L2.St} {H : Hp} (h : te σ H fun v H1 => g v σ H1 D.nx) : tAsg te g D σ H := h
theorem op_go {r : R2} {ta tb : TE} {σ : L2.St} {H : Hp} {Q : VK} (h : ta σ H fun x H1 => tb σ H1 fun y H2 => r x y H2 Q) : tOp r ta tb σ H Q := h
theorem cons_go {t : TE} {ts : TA} {σ : L2.St} {H : Hp} {Q : List V → Hp → Prop} (h : t σ H fun v H1 => ts σ H1 fun vs H2 => Q (v :: vs) H2) : tCons t ts σ H Q := h
theorem cB_go {r : List V → Hp → VK → Prop} {t : TA} {σ : L2.St} {H : Hp} {Q : VK} (h : t σ H fun xs H1 => r xs H1 Q) : tCB r t σ H Q := h
theorem ret_go {te : TE} {D : Ends} {σ : L2.St} {H : Hp} (h : te σ H D.rt) : tRet te D σ H := h
theorem ifS_go {te : TT} {a b : TS} {D : Ends} {σ : L2.St} {H : Hp} (h : te σ H fun c H1 => if c = true then a D σ H1 else b D σ H1) : tIfS te a b D σ H := h
theorem test_go {te : TE} {σ : L2.St} {H : Hp} {Q : Bool → Hp → Prop} (h : te σ H fun x H1 => ∃ c, x = .bl c ∧ Q c H1) : tTest te σ H Q := h
theorem var_go {i : Nat} {v : V} {σ : L2.St} {H : Hp} {Q : VK} (e : σ[i]? = some (some v)) (h : Q v H) : tVar i σ H Q := ⟨v, e, h⟩
theorem call_go {sp : Sp} {dvs : List V} {E : XK} {t : TA} {σ : L2.St} {H : Hp} {Q : VK} (h : t σ H fun vs H1 => sp (vs ++ dvs) H1 Q E) : tCall sp dvs E t σ H Q := h
end Pb

namespace Pb
open PySem PySem.Spec PyProof.Rows L2 TL
/-! ### comprehensions that draw -/
inductive Sel {α β : Type} (S : Prop) (R : α → β → Prop) : List α → List β → Prop
  | nil : Sel S R [] []
  | skip {xs : List α} {ds : List β} {a : α} (s : S) (h : Sel S R xs ds) : Sel S R (xs ++ [a]) ds
  | take {xs : List α} {ds : List β} {a : α} {d : β} (r : R a d) (h : Sel S R xs ds) : Sel S R (xs ++ [a]) (ds ++ [d])
section
variable {α β : Type} {S : Prop} {R : α → β → Prop} {xs : List α} {ds : List β}
theorem Sel.le (h : Sel S R xs ds) : ds.length ≤ xs.length := by
  induction h with
  | nil => exact Nat.le_refl _
  | skip s h ih =>
    rw [List.length_append]
    omega
  | take r h ih =>
    rw [List.length_append, List.length_append]
    simp
    exact ih
theorem Sel.len (h : Sel S R xs ds) (n : ¬ S) : ds.length = xs.length := by
  induction h with
  | nil => rfl
  | skip s h ih => exact absurd s n
  | take r h ih =>
    rw [List.length_append, List.length_append, ih]
    rfl
theorem Sel.all (h : Sel S R xs ds) : ∀ d ∈ ds, ∃ a ∈ xs, R a d := by
  induction h with
  | nil => intro d hd; cases hd
  | skip s h ih =>
    intro d hd
    obtain ⟨a, ha, r⟩ := ih d hd
    exact ⟨a, List.mem_append_left _ ha, r⟩
  | take r h ih =>
    intro d hd
    rcases List.mem_append.mp hd with z | z
    · obtain ⟨a, ha, r⟩ := ih d z
      exact ⟨a, List.mem_append_left _ ha, r⟩
    · rw [List.mem_singleton.mp z]
      exact ⟨_, List.mem_append_right _ (List.mem_singleton.mpr rfl), r⟩
theorem Sel.choose (h : Sel S R xs ds) (n : ¬ S) {γ : Type} {f : γ → β} {g : γ → α} {C : γ → Prop} (w : ∀ a d, R a d → ∃ c, f c = d ∧ g c = a ∧ C c) : ∃ cs : List γ, ds = cs.map f ∧ xs = cs.map g ∧ ∀ c ∈ cs, C c := by
  induction h with
  | nil => exact ⟨[], rfl, rfl, fun _ z => nomatch z⟩
  | skip s h ih => exact absurd s n
  | take r h ih =>
    obtain ⟨cs, e1, e2, e3⟩ := ih
    obtain ⟨c, h1, h2, h3⟩ := w _ _ r
    refine ⟨cs ++ [c], by rw [e1, List.map_append, ← h1]; rfl, by rw [e2, List.map_append, ← h2]; rfl, fun z hz => ?_⟩
    rcases List.mem_append.mp hz with y | y
    · exact e3 z y
    · rw [List.mem_singleton.mp y]
      exact h3
theorem Sel.pick (h : Sel S R xs ds) {γ : Type} {f : γ → β} {C : γ → Prop} (w : ∀ a ∈ xs, ∀ d, R a d → ∃ c, f c = d ∧ C c) : ∃ cs : List γ, ds = cs.map f ∧ (∀ c ∈ cs, C c) ∧ cs.length ≤ xs.length := by
  induction h with
  | nil => exact ⟨[], rfl, (fun _ z => nomatch z), Nat.le_refl _⟩
  | skip s h ih =>
    obtain ⟨cs, e1, e2, e3⟩ := ih fun a ha => w a (List.mem_append_left _ ha)
    exact ⟨cs, e1, e2, by rw [List.length_append]; omega⟩
  | take r h ih =>
    obtain ⟨cs, e1, e2, e3⟩ := ih fun a ha => w a (List.mem_append_left _ ha)
    obtain ⟨c, h1, h2⟩ := w _ (List.mem_append_right _ (List.mem_singleton.mpr rfl)) _ r
    refine ⟨cs ++ [c], by rw [e1, List.map_append, ← h1]; rfl, fun z hz => ?_, by rw [List.length_append, List.length_append]; simp; exact e3⟩
    rcases List.mem_append.mp hz with y | y
    · exact e2 z y
    · rw [List.mem_singleton.mp y]
      exact h2
end
theorem dtAll_nint {H : Hp} : ∀ {vs : List V} {ds : List PyData}, DtAll H vs ds → (∀ d ∈ ds, ∀ i, d ≠ .int i) → ∀ x ∈ vs, ∀ i, x ≠ .int i
  | _, _, .nil, _, x, hx, _ => nomatch hx
  | _, _, .cons (v := v) (d := d) a b, h, x, hx, i => by
    rcases List.mem_cons.mp hx with z | z
    · rw [z]
      intro e
      rw [e] at a
      cases a
      exact h _ List.mem_cons_self i rfl
    · exact dtAll_nint b (fun d hd => h d (List.mem_cons_of_mem _ hd)) x z i
theorem lc_genD {J : It} {n c m : Nat} {d : Addr} {G : Hp → Prop} {Y : Nat → Hp → V → Hp → Prop} (W : Walk J n G Y) {α : Type} {xs : List α} {f : α → PyData} {R : α → PyData → Prop} {S : Prop} {g : TG} {tt : TT} {te : TE} {own : List Nat} {σ : L2.St} {H : Hp} {Q : VK} (hn : xs.length = n) (hs : n ≤ 20000) (dr : Dr H d m) (hG : ∀ H1, Kp d H H1 → G H1)
    (hY : ∀ i a H1 x H2, xs[i]? = some a → Kp d H H1 → Y i H1 x H2 → Same H1 H2 ∧ Dt H2 x (f a)) (ni : ∀ a e, R a e → ∀ i, e ≠ .int i)
    (turn : ∀ (k : Nat) (a : α) (x : V) (H1 : Hp) (N1 : V → Hp → Prop) (N0 : Hp → Prop), xs[k]? = some a → Kp d H H1 → Dr H1 d (m + c * k) → Dt H1 x (f a) → (∀ y e H4, Kp d H1 H4 → Dr H4 d (m + c * (k + 1)) → R a e → Dt H4 y e → N1 y H4) → (∀ H3, S → Kp d H1 H3 → Dr H3 d (m + c * (k + 1)) → N0 H3) →
      g x (wipe σ own) H1 fun σ2 H2 => wipe σ2 own = wipe σ own ∧ tt σ2 H2 fun b H3 => if b = true then te σ2 H3 fun y H4 => N1 y H4 else N0 H3)
    (q : ∀ H' D ds, Kp d H H' → H D = none → Dr H' d (m + c * n) → LD H' D ds → Sel S R xs ds → Q (.ref D) H') : tLc (fun _ H R => R J H) g tt te own σ H Q := by
  intro D nD
  have dD : D ≠ d := dr.elim fun _ h => by
    obtain ⟨a, l, u, cells, e, _⟩ := h
    exact (ne_none e nD).symm
  refine lc_it W (fun k H' => ∃ ds, Kp d H H' ∧ Dr H' d (m + c * k) ∧ LD H' D ds ∧ Sel S R (xs.take k) ds) ⟨[], Same.kp (same_upd nD), dr.same (same_upd nD), ⟨[], upd_same, .nil⟩, .nil⟩ (fun i H1 _ pv => hG H1 (by obtain ⟨_, k, _⟩ := pv; exact k)) (fun i x Ha Hb hi pv y => ?_) fun H' pv => ?_
  · obtain ⟨ds, kp, drk, ⟨vs, eD, t⟩, sel⟩ := pv
    have lt : i < xs.length := by omega
    have ga := List.getElem?_eq_getElem lt
    obtain ⟨s1, dx⟩ := hY i _ Ha x Hb ga kp y
    generalize xs[i] = a at ga dx
    have tk : xs.take (i + 1) = xs.take i ++ [a] := by
      rw [List.take_add_one, ga]
      rfl
    have sv : vs.length < sizeLine := by
      have l1 := t.len
      have l2 := sel.le
      rw [List.length_take] at l2
      exact len20k (by omega)
    have drb := drk.same s1
    refine turn i a x Hb _ _ ga (kp.trans (Same.kp s1)) drb dx (fun y e H4 k4 d4 r dy => ?_) (fun H3 ss k3 d3 => ?_)
    · have e4 := k4.lst drb (s1 _ _ eD)
      have t4 := t.tk ((Same.tk s1).trans (k4.tk drb))
      refine ⟨vs, e4, sv, ds ++ [e], fun b o nb eb => ?_, d4.updL e4 (dtAll_nint t4 fun z hz => ?_), LD.push e4 t4 dy, ?_⟩
      · rw [upd_ne (ne_none eb nD)]
        exact k4 b o nb (s1 _ _ (kp b o nb eb))
      · obtain ⟨a', _, r'⟩ := sel.all z hz
        exact ni a' z r'
      · rw [tk]
        exact .take r sel
    · refine ⟨ds, kp.trans ((Same.kp s1).trans k3), d3, ⟨vs, k3.lst drb (s1 _ _ eD), t.tk ((Same.tk s1).trans (k3.tk drb))⟩, ?_⟩
      rw [tk]
      exact .skip ss sel
  · obtain ⟨ds, kp, drk, l, sel⟩ := pv
    rw [← hn, List.take_length] at sel
    exact q H' D ds kp nD drk l sel
end Pb

namespace Pb
open PySem PySem.Spec PyProof.Rows L2 TL
/-! ### data that can be compared -/
def Ly (k : Nat) (d : PyData) : Prop := d.canLay0 = true ∧ d.depth ≤ k
def LyA (k : Nat) (ds : List PyData) : Prop := PyData.canLayAll0 ds = true ∧ PyData.depthAll ds ≤ k
theorem Ly.shp {k : Nat} {d : PyData} (h : Ly k d) (hk : k ≤ 64) : SeqAt.shaped d = true := by
  unfold SeqAt.shaped
  rw [h.1, decide_eq_true (Nat.le_trans h.2 hk)]
  rfl
theorem Ly.str {z : Str} {k : Nat} (h : Sh k z) : Ly 0 (.str z) := ⟨lay_str h.1, Nat.le_refl _⟩
theorem Ly.int (i : Int) : Ly 0 (.int i) := ⟨rfl, Nat.le_refl _⟩
theorem Ly.non : Ly 0 .none := ⟨rfl, Nat.le_refl _⟩
theorem LyA.nil : LyA 0 [] := ⟨rfl, Nat.le_refl _⟩
theorem LyA.cons {j k : Nat} {d : PyData} {ds : List PyData} (h : Ly j d) (t : LyA k ds) : LyA (max j k) (d :: ds) := by
  refine ⟨?_, ?_⟩
  · show (d.canLay0 && PyData.canLayAll0 ds) = true
    rw [h.1, t.1]
    rfl
  · show max d.depth (PyData.depthAll ds) ≤ max j k
    have := h.2
    have := t.2
    omega
theorem LyA.all {k : Nat} (ds : List PyData) (h : ∀ d ∈ ds, Ly k d) : LyA k ds := ⟨lay_all ds fun d hd => (h d hd).1, depth_all ds fun d hd => (h d hd).2⟩
theorem LyA.map {α : Type} {k : Nat} {f : α → PyData} (xs : List α) (h : ∀ x ∈ xs, Ly k (f x)) : LyA k (xs.map f) := .all _ fun d hd => by
  obtain ⟨x, hx, rfl⟩ := List.mem_map.mp hd
  exact h x hx
theorem Ly.tup {k : Nat} {ds : List PyData} (h : LyA k ds) : Ly (k + 1) (.tuple ds) := ⟨h.1, Nat.succ_le_succ h.2⟩
theorem Ly.lst {k : Nat} {ds : List PyData} (h : LyA k ds) : Ly (k + 1) (.list ds) := ⟨h.1, Nat.succ_le_succ h.2⟩
/-! ### sections as they are -/
abbrev Tri := Int × Int × Int
def TriOk (t : Tri) : Prop := 0 ≤ t.1 ∧ t.1 ≤ 999 ∧ 0 ≤ t.2.1 ∧ t.2.1 ≤ 999 ∧ 0 ≤ t.2.2 ∧ t.2.2 ≤ 999
def triD (t : Tri) : PyData := .tuple [.int t.1, .int t.2.1, .int t.2.2]
def prD (t : Str × Str) : PyData := .tuple [.str t.1, .str t.2]
structure Sec where
  nm : Str
  ms : List Str
  ts : List Tri
def secD (s : Sec) : PyData := .tuple [.str s.nm, .tuple (s.ms.map .str), .tuple (s.ts.map triD)]
def waysL (ms : List Str) : List (Str × Str) := ms.zip ms.tail
/-- marks, no two ways between neighbours alike, either way round -/
inductive GoodMs : List Str → Prop
  | one (m : Str) : GoodMs [m]
  | more {ms : List Str} {l y : Str} (h : GoodMs (ms ++ [l])) (ne : y ≠ l) (w1 : (l, y) ∉ waysL (ms ++ [l])) (w2 : (y, l) ∉ waysL (ms ++ [l])) : GoodMs (ms ++ [l] ++ [y])
theorem waysL_get (ms : List Str) : ((List.range (ms.length - 1)).map fun k => (ms.getD k "", ms.getD (k + 1) "")) = waysL ms := by
  unfold waysL
  apply List.ext_getElem
  · rw [List.length_map, List.length_range, List.length_zip, List.length_tail]
    omega
  · intro i h1 h2
    rw [List.length_map, List.length_range] at h1
    rw [List.getElem_map, List.getElem_range, List.getElem_zip, List.getElem_tail, List.getD_eq_getElem?_getD, List.getD_eq_getElem?_getD, List.getElem?_eq_getElem (by omega), List.getElem?_eq_getElem (by omega)]
    rfl
theorem waysL_mem {ms : List Str} {t : Str × Str} (h : t ∈ waysL ms) : t.1 ∈ ms ∧ t.2 ∈ ms := by
  have h' : (t.1, t.2) ∈ ms.zip ms.tail := h
  obtain ⟨a, b⟩ := List.of_mem_zip h'
  exact ⟨a, List.mem_of_mem_tail b⟩
theorem eqv_str (x y : Str) : PyData.eqv (.str x) (.str y) = decide (x = y) := by
  show (x == y) = _
  by_cases h : x = y <;> simp [h]
theorem eqv_pr (s t : Str × Str) : PyData.eqv (prD s) (prD t) = decide (s = t) := by
  obtain ⟨a, b⟩ := s
  obtain ⟨c, d⟩ := t
  show (PyData.eqv (.str a) (.str c) && (PyData.eqv (.str b) (.str d) && true)) = _
  rw [eqv_str, eqv_str]
  by_cases h1 : a = c <;> by_cases h2 : b = d <;> simp [h1, h2]
theorem any_pr (ws : List (Str × Str)) (t : Str × Str) : ((ws.map prD).any fun z => PyData.eqv z (prD t)) = decide (t ∈ ws) := by
  induction ws with
  | nil => rfl
  | cons s r ih =>
    rw [List.map_cons, List.any_cons, ih, eqv_pr]
    by_cases h1 : s = t
    · subst h1
      simp
    · have h2 : ¬ t = s := fun e => h1 e.symm
      simp [h1, h2]
theorem eqv_nilL (ds : List PyData) : PyData.eqv (.list ds) (.list []) = decide (ds = []) := by
  cases ds with
  | nil => rfl
  | cons a r => rfl
end Pb

namespace Pb
open PySem PySem.Spec PyProof.Rows L2 TL
/-! ### data: of tuples, also those that the module itself has, and of lists that no one changes any more (those in F) -/
def TupIn (K : PySem.W.Frag) (H : Hp) (a : Addr) (xs : List V) : Prop :=
  H a = some (.tup xs) ∨ ∃ (o : Obj) (its : Array Value) (n : Nat), K.lookup a = some o ∧ o.cls = .type "tuple" ∧ o.data = .seq its n ∧ its.size ≤ sizeLine ∧ Vals xs its.toList
theorem TupIn.sq {K : PySem.W.Frag} {H : Hp} {a : Addr} {xs : List V} (h : TupIn K H a xs) : SqT K H a xs := h.elim (fun e => .of e) .inr
mutual
inductive Dk (K : PySem.W.Frag) (F : Addr → Prop) (H : Hp) : V → PyData → Prop
  | non : Dk K F H .non .none
  | bl (b : Bool) : Dk K F H (.bl b) (.bool b)
  | int (i : Int) : Dk K F H (.int i) (.int i)
  | str (x : Str) : Dk K F H (.str x) (.str x)
  | tup {a : Addr} {vs : List V} {ds : List PyData} (h : TupIn K H a vs) (t : DkAll K F H vs ds) : Dk K F H (.ref a) (.tuple ds)
  | lst {a : Addr} {vs : List V} {ds : List PyData} (h : H a = some (.lst vs)) (fa : F a) (t : DkAll K F H vs ds) : Dk K F H (.ref a) (.list ds)
inductive DkAll (K : PySem.W.Frag) (F : Addr → Prop) (H : Hp) : List V → List PyData → Prop
  | nil : DkAll K F H [] []
  | cons {v : V} {d : PyData} {vs : List V} {ds : List PyData} (h : Dk K F H v d) (t : DkAll K F H vs ds) : DkAll K F H (v :: vs) (d :: ds)
end
/-- tuples stay, and the lists in F -/
def FK (F : Addr → Prop) (H H' : Hp) : Prop := TK H H' ∧ ∀ a xs, F a → H a = some (.lst xs) → H' a = some (.lst xs)
theorem FK.refl {F : Addr → Prop} (H : Hp) : FK F H H := ⟨TK.refl _, fun _ _ _ e => e⟩
theorem FK.trans {F : Addr → Prop} {H H' H'' : Hp} (a : FK F H H') (b : FK F H' H'') : FK F H H'' := ⟨a.1.trans b.1, fun x v f h => b.2 x v f (a.2 x v f h)⟩
theorem FK.mono {F F' : Addr → Prop} {H H' : Hp} (a : FK F' H H') (h : ∀ b, F b → F' b) : FK F H H' := ⟨a.1, fun x v f e => a.2 x v (h x f) e⟩
theorem Same.fk {F : Addr → Prop} {H H' : Hp} (s : Same H H') : FK F H H' := ⟨Same.tk s, fun a _ _ e => s a _ e⟩
section
variable {K : PySem.W.Frag} {F : Addr → Prop}
theorem TupIn.tk {H H' : Hp} (s : TK H H') {a : Addr} {xs : List V} (h : TupIn K H a xs) : TupIn K H' a xs := h.elim (fun e => .inl (s _ _ e)) .inr
mutual
theorem Dk.fk {H H' : Hp} (s : FK F H H') : ∀ {v : V} {d : PyData}, Dk K F H v d → Dk K F H' v d
  | _, _, .non => .non
  | _, _, .bl b => .bl b
  | _, _, .int i => .int i
  | _, _, .str x => .str x
  | _, _, .tup h t => .tup (h.tk s.1) (DkAll.fk s t)
  | _, _, .lst h f t => .lst (s.2 _ _ f h) f (DkAll.fk s t)
theorem DkAll.fk {H H' : Hp} (s : FK F H H') : ∀ {v : List V} {d : List PyData}, DkAll K F H v d → DkAll K F H' v d
  | _, _, .nil => .nil
  | _, _, .cons a b => .cons (Dk.fk s a) (DkAll.fk s b)
end
mutual
theorem Dk.mono {F' : Addr → Prop} {H : Hp} (s : ∀ b, F b → F' b) : ∀ {v : V} {d : PyData}, Dk K F H v d → Dk K F' H v d
  | _, _, .non => .non
  | _, _, .bl b => .bl b
  | _, _, .int i => .int i
  | _, _, .str x => .str x
  | _, _, .tup h t => .tup h (DkAll.mono s t)
  | _, _, .lst h f t => .lst h (s _ f) (DkAll.mono s t)
theorem DkAll.mono {F' : Addr → Prop} {H : Hp} (s : ∀ b, F b → F' b) : ∀ {v : List V} {d : List PyData}, DkAll K F H v d → DkAll K F' H v d
  | _, _, .nil => .nil
  | _, _, .cons a b => .cons (Dk.mono s a) (DkAll.mono s b)
end
mutual
theorem Dk.dp {H : Hp} : ∀ {v : V} {d : PyData}, Dk K F H v d → Dp K H v d
  | _, _, .non => .non
  | _, _, .bl b => .bl b
  | _, _, .int i => .int i
  | _, _, .str x => .str x
  | _, _, .tup h t => .tup h.sq (DkAll.dp t)
  | _, _, .lst h _ t => .lst (.of h) (DkAll.dp t)
theorem DkAll.dp {H : Hp} : ∀ {v : List V} {d : List PyData}, DkAll K F H v d → DpAll K H v d
  | _, _, .nil => .nil
  | _, _, .cons a b => .cons (Dk.dp a) (DkAll.dp b)
end
mutual
theorem Dt.dk {H : Hp} : ∀ {v : V} {d : PyData}, Dt H v d → Dk K F H v d
  | _, _, .non => .non
  | _, _, .bl b => .bl b
  | _, _, .int i => .int i
  | _, _, .str x => .str x
  | _, _, .tup h t => .tup (.inl h) (DtAll.dk t)
theorem DtAll.dk {H : Hp} : ∀ {v : List V} {d : List PyData}, DtAll H v d → DkAll K F H v d
  | _, _, .nil => .nil
  | _, _, .cons a b => .cons (Dt.dk a) (DtAll.dk b)
end
theorem DkAll.len {H : Hp} : ∀ {v : List V} {d : List PyData}, DkAll K F H v d → v.length = d.length
  | _, _, .nil => rfl
  | _, _, .cons _ b => congrArg Nat.succ (DkAll.len b)
theorem DkAll.app {H : Hp} : ∀ {v u : List V} {d e : List PyData}, DkAll K F H v d → DkAll K F H u e → DkAll K F H (v ++ u) (d ++ e)
  | _, _, _, _, .nil, h => h
  | _, _, _, _, .cons a b, h => .cons a (DkAll.app b h)
theorem DkAll.get {H : Hp} : ∀ {vs : List V} {ds : List PyData}, DkAll K F H vs ds → ∀ (i : Nat) (d : PyData), ds[i]? = some d → ∃ v, vs[i]? = some v ∧ Dk K F H v d
  | _, _, .nil, i, d, h => by simp at h
  | _, _, .cons (v := v) a b, 0, d, h => by
    have e := Option.some.inj h
    subst e
    exact ⟨v, rfl, a⟩
  | _, _, .cons a b, i + 1, d, h => DkAll.get b i d h
theorem DkAll.take {H : Hp} : ∀ {vs : List V} {ds : List PyData}, DkAll K F H vs ds → ∀ n, DkAll K F H (vs.take n) (ds.take n)
  | _, _, .nil, n => by simpa using DkAll.nil
  | _, _, .cons a b, 0 => .nil
  | _, _, .cons a b, n + 1 => .cons a (DkAll.take b n)
theorem DkAll.drop {H : Hp} : ∀ {vs : List V} {ds : List PyData}, DkAll K F H vs ds → ∀ n, DkAll K F H (vs.drop n) (ds.drop n)
  | _, _, .nil, n => by simpa using DkAll.nil
  | _, _, .cons a b, 0 => .cons a b
  | _, _, .cons a b, n + 1 => DkAll.drop b n
theorem DkAll.set {H : Hp} {v : V} {d : PyData} (h : Dk K F H v d) : ∀ {vs : List V} {ds : List PyData}, DkAll K F H vs ds → ∀ n, DkAll K F H (vs.set n v) (ds.set n d)
  | _, _, .nil, n => by simpa using DkAll.nil
  | _, _, .cons a b, 0 => .cons h b
  | _, _, .cons a b, n + 1 => .cons a (DkAll.set h b n)
theorem DkAll.rev {H : Hp} : ∀ {vs : List V} {ds : List PyData}, DkAll K F H vs ds → DkAll K F H vs.reverse ds.reverse
  | _, _, .nil => .nil
  | _, _, .cons a b => by
    rw [List.reverse_cons, List.reverse_cons]
    exact (DkAll.rev b).app (.cons a .nil)
theorem Dk.tup' {H : Hp} {v : V} {ds : List PyData} (h : Dk K F H v (.tuple ds)) : ∃ a vs, v = .ref a ∧ TupIn K H a vs ∧ DkAll K F H vs ds := by
  cases h with
  | tup h t => exact ⟨_, _, rfl, h, t⟩
theorem Dk.str' {H : Hp} {v : V} {x : Str} (h : Dk K F H v (.str x)) : v = .str x := by
  cases h
  rfl
theorem Dk.int' {H : Hp} {v : V} {i : Int} (h : Dk K F H v (.int i)) : v = .int i := by
  cases h
  rfl
theorem Dk.bl' {H : Hp} {v : V} {b : Bool} (h : Dk K F H v (.bool b)) : v = .bl b := by
  cases h
  rfl
theorem Dk.non' {H : Hp} {v : V} (h : Dk K F H v .none) : v = .non := by
  cases h
  rfl
theorem Dk.lst' {H : Hp} {v : V} {ds : List PyData} (h : Dk K F H v (.list ds)) : ∃ a vs, v = .ref a ∧ H a = some (.lst vs) ∧ F a ∧ DkAll K F H vs ds := by
  cases h with
  | lst h f t => exact ⟨_, _, rfl, h, f, t⟩
theorem DkAll.strs {H : Hp} : ∀ {vs : List V} {xs : List Str}, DkAll K F H vs (xs.map .str) → vs = xs.map V.str
  | _, [], .nil => rfl
  | _, x :: xs, .cons a b => by
    rw [a.str', DkAll.strs b]
    rfl
theorem DkAll.ints {H : Hp} : ∀ {vs : List V} {xs : List Int}, DkAll K F H vs (xs.map .int) → vs = xs.map V.int
  | _, [], .nil => rfl
  | _, x :: xs, .cons a b => by
    rw [a.int', DkAll.ints b]
    rfl
theorem DkAll.bools {H : Hp} : ∀ {vs : List V} {xs : List Bool}, DkAll K F H vs (xs.map .bool) → vs = xs.map V.bl
  | _, [], .nil => rfl
  | _, x :: xs, .cons a b => by
    rw [a.bl', DkAll.bools b]
    rfl
/-- a list of such data -/
def LK (K : PySem.W.Frag) (F : Addr → Prop) (H : Hp) (r : Addr) (ds : List PyData) : Prop := ∃ vs, H r = some (.lst vs) ∧ DkAll K F H vs ds
theorem LK.dp {H : Hp} {r : Addr} {ds : List PyData} (h : LK K F H r ds) : Dp K H (.ref r) (.list ds) := by
  obtain ⟨vs, e, t⟩ := h
  exact .lst (.of e) t.dp
theorem LK.mono {F' : Addr → Prop} {H : Hp} {r : Addr} {ds : List PyData} (h : LK K F H r ds) (s : ∀ b, F b → F' b) : LK K F' H r ds := by
  obtain ⟨vs, e, t⟩ := h
  exact ⟨vs, e, t.mono s⟩
theorem LK.ne_none {H : Hp} {a : Addr} {ds : List PyData} (h : LK K F H a ds) : H a ≠ none := by
  obtain ⟨vs, e, _⟩ := h
  rw [e]
  intro z
  cases z
/-! ### the draw, its cells at a known place -/
def DrC (H : Hp) (d c : Addr) (n : Nat) : Prop := ∃ (a l u : Int) (cells : List Int), H d = some (.dK (drV c a l u)) ∧ H c = some (.lst (cells.map V.int)) ∧
  cells ≠ [] ∧ cells.length ≤ 100 ∧ 0 ≤ a ∧ a ≤ n ∧ 0 ≤ u ∧ u ≤ n
theorem DrC.same {H H' : Hp} {d c : Addr} {n : Nat} (h : DrC H d c n) (s : Same H H') : DrC H' d c n := by
  obtain ⟨a, l, u, cs, h1, h2, r⟩ := h
  exact ⟨a, l, u, cs, s _ _ h1, s _ _ h2, r⟩
theorem DrC.upd {H : Hp} {d c D : Addr} {o : HO} {n : Nat} (h : DrC H d c n) (h1 : d ≠ D) (h2 : c ≠ D) : DrC (upd H D o) d c n := by
  obtain ⟨a, l, u, cs, e1, e2, r⟩ := h
  exact ⟨a, l, u, cs, by rw [upd_ne h1]; exact e1, by rw [upd_ne h2]; exact e2, r⟩
theorem DrC.mono {H : Hp} {d c : Addr} {n m : Nat} (h : DrC H d c n) (l : n ≤ m) : DrC H d c m := by
  obtain ⟨a, x, u, cs, h1, h2, h3, h4, h5, h6, h7, h8⟩ := h
  exact ⟨a, x, u, cs, h1, h2, h3, h4, h5, by omega, h7, by omega⟩
abbrev Md := Option (Addr × Addr)
/-- all stays, but the draw, if there is one -/
def Kx : Md → Hp → Hp → Prop
  | none => Same
  | some p => Kp p.1
def Gd : Md → Nat → Hp → Prop
  | none, _, _ => True
  | some p, n, H => DrC H p.1 p.2 n
theorem Kx.refl (od : Md) (H : Hp) : Kx od H H := by
  cases od with
  | none => exact Same.refl _
  | some p => exact Kp.refl _
theorem Kx.trans {od : Md} {H H' H'' : Hp} (a : Kx od H H') (b : Kx od H' H'') : Kx od H H'' := by
  cases od with
  | none => exact Same.trans a b
  | some p => exact Kp.trans a b
theorem Same.kx {od : Md} {H H' : Hp} (s : Same H H') : Kx od H H' := by
  cases od with
  | none => exact s
  | some p => exact Same.kp s
theorem Gd.same {od : Md} {n : Nat} {H H' : Hp} (g : Gd od n H) (s : Same H H') : Gd od n H' := by
  cases od with
  | none => trivial
  | some p => exact DrC.same g s
theorem Gd.mono {od : Md} {n m : Nat} {H : Hp} (g : Gd od n H) (l : n ≤ m) : Gd od m H := by
  cases od with
  | none => trivial
  | some p => exact DrC.mono g l
theorem Kx.obj {od : Md} {n : Nat} {H H' : Hp} (k : Kx od H H') (g : Gd od n H) {a : Addr} {o : HO} (e : H a = some o) (h : ∀ kvs, o ≠ .dK kvs) : H' a = some o := by
  cases od with
  | none => exact k _ _ e
  | some p =>
    obtain ⟨x, l, u, cs, e1, _⟩ := g
    exact k _ _ (fun z => by rw [z, e1] at e; exact h _ (Option.some.inj e).symm) e
theorem Kx.tk {od : Md} {n : Nat} {H H' : Hp} (k : Kx od H H') (g : Gd od n H) : TK H H' := fun a vs e => k.obj g e (fun _ z => nomatch z)
theorem Kx.fk {od : Md} {n : Nat} {H H' : Hp} (k : Kx od H H') (g : Gd od n H) : FK F H H' := ⟨k.tk g, fun a vs _ e => k.obj g e (fun _ z => nomatch z)⟩
theorem Kx.lk {od : Md} {n : Nat} {H H' : Hp} (k : Kx od H H') (g : Gd od n H) {a : Addr} {ds : List PyData} (h : LK K F H a ds) : LK K F H' a ds := by
  obtain ⟨vs, e, t⟩ := h
  exact ⟨vs, k.obj g e (fun _ z => nomatch z), t.fk (k.fk g)⟩
theorem Kx.some {od : Md} {m : Nat} {H H' : Hp} (k : Kx od H H') (g' : Gd od m H') {a : Addr} (h : H a ≠ none) : H' a ≠ none := by
  cases od with
  | none =>
    cases e : H a with
    | none => exact absurd e h
    | some o =>
      rw [k _ _ e]
      intro z
      cases z
  | some p =>
    by_cases hp : a = p.1
    · obtain ⟨x, l, u, cs, e1, _⟩ := g'
      rw [hp, e1]
      intro z
      cases z
    · cases e : H a with
      | none => exact absurd e h
      | some o =>
        rw [k _ _ hp e]
        intro z
        cases z
theorem Kx.none {od : Md} {m : Nat} {H H' : Hp} (k : Kx od H H') (g' : Gd od m H') {a : Addr} (h : H' a = none) : H a = none := by
  cases e : H a with
  | none => rfl
  | some o => exact absurd h (k.some g' (by rw [e]; intro z; cases z))
/-- more is kept than before: only what is new -/
def Gr (F : Addr → Prop) (H : Hp) (F' : Addr → Prop) : Prop := (∀ b, F b → F' b) ∧ ∀ b, F' b → F b ∨ H b = none
theorem Gr.refl (F : Addr → Prop) (H : Hp) : Gr F H F := ⟨fun _ h => h, fun _ h => .inl h⟩
theorem Gr.trans {F1 F2 F3 : Addr → Prop} {od : Md} {m : Nat} {H H' : Hp} (a : Gr F1 H F2) (b : Gr F2 H' F3) (k : Kx od H H') (g' : Gd od m H') : Gr F1 H F3 := ⟨fun x h => b.1 x (a.1 x h), fun x h => (b.2 x h).elim (a.2 x) fun e => .inr (k.none g' e)⟩
theorem Gr.out {F' : Addr → Prop} {H : Hp} {a : Addr} (g : Gr F H F') (h : ¬ F a) (e : H a ≠ none) : ¬ F' a := fun z => (g.2 a z).elim h e
/-! ### what the slots hold -/
inductive Sl
  | no
  | da (d : PyData)
  | own (ds : List PyData)
  | ro (ds : List PyData)
  | dw
def SlAt (K : PySem.W.Frag) (od : Md) (F B : Addr → Prop) (H : Hp) (v : Option V) : Sl → Prop
  | .no => True
  | .da d => ∃ x, v = some x ∧ Dk K F H x d
  | .own ds => ∃ a, v = some (.ref a) ∧ LK K F H a ds ∧ ¬ F a ∧ ¬ B a
  | .ro ds => ∃ a, v = some (.ref a) ∧ LK K F H a ds
  | .dw => ∃ p, od = some p ∧ v = some (.ref p.1)
def OwnS (Γ : List Sl) (i : Nat) : Prop := ∃ ds, Γ[i]? = some (.own ds)
def LstS (Γ : List Sl) (i : Nat) : Prop := ∃ ds, Γ[i]? = some (.own ds) ∨ Γ[i]? = some (.ro ds)
structure Fits (K : PySem.W.Frag) (od : Md) (F B : Addr → Prop) (Γ : List Sl) (σ : L2.St) (H : Hp) : Prop where
  len : Γ.length = σ.length
  at_ : ∀ (i : Nat) (s : Sl) (v : Option V), Γ[i]? = some s → σ[i]? = some v → SlAt K od F B H v s
  sep : ∀ (i j : Nat) (a : Addr), i ≠ j → OwnS Γ i → LstS Γ j → σ[i]? = some (some (.ref a)) → σ[j]? ≠ some (some (.ref a))
  dom : ∀ b : Addr, B b → H b ≠ none
  domF : ∀ b : Addr, F b → H b ≠ none
  cel : ∀ p : Addr × Addr, od = some p → B p.2
/-- what is protected stays, all tuples, the lists in F -/
def Pr (od : Md) (F B : Addr → Prop) (H H' : Hp) : Prop := FK F H H' ∧ ∀ b o, B b → (∀ p, od = some p → b ≠ p.1) → H b = some o → H' b = some o
theorem Pr.refl {od : Md} {B : Addr → Prop} (H : Hp) : Pr od F B H H := ⟨FK.refl _, fun _ _ _ _ e => e⟩
theorem Pr.trans {od : Md} {B : Addr → Prop} {H H' H'' : Hp} (a : Pr od F B H H') (b : Pr od F B H' H'') : Pr od F B H H'' := ⟨a.1.trans b.1, fun x o h n e => b.2 x o h n (a.2 x o h n e)⟩
theorem Pr.mono {od : Md} {F' B B' : Addr → Prop} {H H' : Hp} (a : Pr od F' B' H H') (hf : ∀ b, F b → F' b) (h : ∀ b, B b → B' b) : Pr od F B H H' := ⟨a.1.mono hf, fun x o b n e => a.2 x o (h x b) n e⟩
theorem Kx.pr {od : Md} {n : Nat} {B : Addr → Prop} {H H' : Hp} (k : Kx od H H') (g : Gd od n H) : Pr od F B H H' := ⟨k.fk g, fun b o _ hn e => by
  cases od with
  | none => exact k _ _ e
  | some p => exact k _ _ (hn p rfl) e⟩
section
variable {od : Md} {B : Addr → Prop} {Γ : List Sl} {σ : L2.St} {H H' : Hp} {n m : Nat}
theorem SlAt.kx {v : Option V} {s : Sl} {F' : Addr → Prop} (k : Kx od H H') (g : Gd od n H) (gr : Gr F H F') (h : SlAt K od F B H v s) : SlAt K od F' B H' v s := by
  cases s with
  | no => trivial
  | da d =>
    obtain ⟨x, e, t⟩ := h
    exact ⟨x, e, (t.fk (k.fk g)).mono gr.1⟩
  | own ds =>
    obtain ⟨a, e, l, f, b⟩ := h
    exact ⟨a, e, (k.lk g l).mono gr.1, gr.out f l.ne_none, b⟩
  | ro ds =>
    obtain ⟨a, e, l⟩ := h
    exact ⟨a, e, (k.lk g l).mono gr.1⟩
  | dw => exact h
theorem Fits.kg {F' : Addr → Prop} (f : Fits K od F B Γ σ H) (k : Kx od H H') (g : Gd od n H) (g' : Gd od m H') (gr : Gr F H F') (hd : ∀ b, F' b → H' b ≠ none) : Fits K od F' B Γ σ H' :=
  ⟨f.len, fun i s v a b => SlAt.kx k g gr (f.at_ i s v a b), f.sep, fun b hb => k.some g' (f.dom b hb), hd, f.cel⟩
theorem Fits.kx (f : Fits K od F B Γ σ H) (k : Kx od H H') (g : Gd od n H) (g' : Gd od m H') : Fits K od F B Γ σ H' := f.kg k g g' (Gr.refl _ _) fun b hb => k.some g' (f.domF b hb)
theorem Fits.slot (f : Fits K od F B Γ σ H) {i : Nat} {s : Sl} (h : Γ[i]? = some s) : ∃ v, σ[i]? = some v ∧ SlAt K od F B H v s := by
  have hi : i < Γ.length := (List.getElem?_eq_some_iff.mp h).1
  have hi2 : i < σ.length := by rw [← f.len]; exact hi
  exact ⟨σ[i], List.getElem?_eq_getElem hi2, f.at_ i s _ h (List.getElem?_eq_getElem hi2)⟩
/-- a list slot's address stands in the heap -/
theorem Fits.lstAt (f : Fits K od F B Γ σ H) {j : Nat} {a : Addr} (h : LstS Γ j) (e : σ[j]? = some (some (.ref a))) : H a ≠ none := by
  obtain ⟨ds, h | h⟩ := h
  · obtain ⟨v, ev, x, ex, l, _⟩ := f.slot h
    rw [e] at ev
    cases ev
    cases ex
    exact l.ne_none
  · obtain ⟨v, ev, x, ex, l⟩ := f.slot h
    rw [e] at ev
    cases ev
    cases ex
    exact l.ne_none
end
end
end Pb

namespace Pb
open PySem PySem.Spec PyProof.Rows L2 TL
/-! ### what an expression gives -/
inductive Rs
  | da (d : PyData)
  | fr (ds : List PyData)
  | ow (ds : List PyData)
  | al (ds : List PyData)
  | dw
def Rs.lst? : Rs → Option (List PyData)
  | .fr ds => some ds
  | .ow ds => some ds
  | .al ds => some ds
  | .da (.list ds) => some ds
  | _ => none
section
variable (K : PySem.W.Frag) (od : Md)
def RsAt (F B : Addr → Prop) (Hb H : Hp) (v : V) : Rs → Prop
  | .da d => Dk K F H v d
  | .fr ds => ∃ a, v = .ref a ∧ LK K F H a ds ∧ Hb a = none ∧ ¬ F a ∧ ¬ B a
  | .ow ds => ∃ a, v = .ref a ∧ LK K F H a ds ∧ ¬ F a ∧ ¬ B a
  | .al ds => ∃ a, v = .ref a ∧ LK K F H a ds
  | .dw => ∃ p, od = some p ∧ v = .ref p.1
inductive RsAll (F B : Addr → Prop) (Hb H : Hp) : List V → List Rs → Prop
  | nil : RsAll F B Hb H [] []
  | cons {v : V} {r : Rs} {vs : List V} {rs : List Rs} (h : RsAt K od F B Hb H v r) (t : RsAll F B Hb H vs rs) (ne : ∀ ds, r = .fr ds → ∀ (k : Nat) es, rs[k]? = some (.fr es) → vs[k]? ≠ some v) : RsAll F B Hb H (v :: vs) (r :: rs)
/-- an expression was looked at: what stood stands, something new may be kept -/
structure Go (F B : Addr → Prop) (Γ : List Sl) (σ : L2.St) (H : Hp) (F' : Addr → Prop) (H' : Hp) (m : Nat) : Prop where
  gr : Gr F H F'
  k : Kx od H H'
  g : Gd od m H'
  f : Fits K od F' B Γ σ H'
def wE (t : TE) (Γ : List Sl) (n : Nat) (Q : Rs → Nat → Prop) : Prop :=
  ∀ (F B : Addr → Prop) (σ : L2.St) (H : Hp), Fits K od F B Γ σ H → Gd od n H → ∀ R : VK, (∀ v H' r n' F', Q r n' → Go K od F B Γ σ H F' H' n' → RsAt K od F' B H H' v r → R v H') → t σ H R
def wT (t : TT) (Γ : List Sl) (n : Nat) (Q : Bool → Nat → Prop) : Prop :=
  ∀ (F B : Addr → Prop) (σ : L2.St) (H : Hp), Fits K od F B Γ σ H → Gd od n H → ∀ R : Bool → Hp → Prop, (∀ b H' n' F', Q b n' → Go K od F B Γ σ H F' H' n' → R b H') → t σ H R
def wA (t : TA) (Γ : List Sl) (n : Nat) (Q : List Rs → Nat → Prop) : Prop :=
  ∀ (F B : Addr → Prop) (σ : L2.St) (H : Hp), Fits K od F B Γ σ H → Gd od n H → ∀ R : List V → Hp → Prop, (∀ vs H' rs n' F', Q rs n' → Go K od F B Γ σ H F' H' n' → RsAll K od F' B H H' vs rs → R vs H') → t σ H R
/-- a part of a slice -/
def wO (t : TO) (Γ : List Sl) (n : Nat) (Q : Option Int → Nat → Prop) : Prop :=
  ∀ (F B : Addr → Prop) (σ : L2.St) (H : Hp), Fits K od F B Γ σ H → Gd od n H → ∀ R : Option Int → Hp → Prop, (∀ o H' n' F', Q o n' → Go K od F B Γ σ H F' H' n' → R o H') → t σ H R
def Ev (t : TE) (Γ : List Sl) (r : Rs) : Prop := ∀ n Q, Q r n → wE K od t Γ n Q
def EvT (t : TT) (Γ : List Sl) (b : Bool) : Prop := ∀ n Q, Q b n → wT K od t Γ n Q
def EvA (t : TA) (Γ : List Sl) (rs : List Rs) : Prop := ∀ n Q, Q rs n → wA K od t Γ n Q
def EvO (t : TO) (Γ : List Sl) (o : Option Int) : Prop := ∀ n Q, Q o n → wO K od t Γ n Q
def Dm (F B : Addr → Prop) (H : Hp) : Prop := ∀ b, F b ∨ B b → H b ≠ none
/-- an operator, by data -/
def R2D (r : R2) (x y z : Rs) : Prop := ∀ (F B : Addr → Prop) (Ha H : Hp) (n : Nat) (v u : V), Gd od n H → Dm F B H → RsAt K od F B Ha H v x → RsAt K od F B Ha H u y → ∀ R : VK, (∀ w H', Same H H' → RsAt K od F B H H' w z → R w H') → r v u H R
def U1D (r : V → Hp → VK → Prop) (x z : Rs) : Prop := ∀ (F B : Addr → Prop) (Ha H : Hp) (n : Nat) (v : V), Gd od n H → Dm F B H → RsAt K od F B Ha H v x → ∀ R : VK, (∀ w H', Same H H' → RsAt K od F B H H' w z → R w H') → r v H R
def CBD (r : List V → Hp → VK → Prop) (xs : List Rs) (z : Rs) : Prop := ∀ (F B : Addr → Prop) (Ha H : Hp) (n : Nat) (vs : List V), Gd od n H → Dm F B H → RsAll K od F B Ha H vs xs → ∀ R : VK, (∀ w H', Same H H' → RsAt K od F B H H' w z → R w H') → r vs H R
def SlD (r : V → Option Int → Option Int → Hp → VK → Prop) (x : Rs) (lo hi : Option Int) (z : Rs) : Prop := ∀ (F B : Addr → Prop) (Ha H : Hp) (n : Nat) (v : V), Gd od n H → Dm F B H → RsAt K od F B Ha H v x → ∀ R : VK, (∀ w H', Same H H' → RsAt K od F B H H' w z → R w H') → r v lo hi H R
end
section
variable {K : PySem.W.Frag} {od : Md} {F B : Addr → Prop} {Γ : List Sl} {n : Nat}
theorem Fits.dm {σ : L2.St} {H : Hp} (f : Fits K od F B Γ σ H) : Dm F B H := fun b h => h.elim (f.domF b) (f.dom b)
theorem Go.refl {σ : L2.St} {H : Hp} (f : Fits K od F B Γ σ H) (g : Gd od n H) : Go K od F B Γ σ H F H n := ⟨Gr.refl _ _, Kx.refl _ _, g, f⟩
theorem Go.trans {σ : L2.St} {H H1 H2 : Hp} {F1 F2 : Addr → Prop} {m1 m2 : Nat} (a : Go K od F B Γ σ H F1 H1 m1) (b : Go K od F1 B Γ σ H1 F2 H2 m2) : Go K od F B Γ σ H F2 H2 m2 := ⟨a.gr.trans b.gr a.k a.g, a.k.trans b.k, b.g, b.f⟩
theorem Go.same {σ : L2.St} {H H1 H2 : Hp} {F1 : Addr → Prop} {m1 : Nat} (a : Go K od F B Γ σ H F1 H1 m1) (s : Same H1 H2) : Go K od F B Γ σ H F1 H2 m1 := ⟨a.gr, a.k.trans (Same.kx s), a.g.same s, a.f.kx (Same.kx s) a.g (a.g.same s)⟩
theorem RsAt.step {Hb H H' : Hp} {v : V} {r : Rs} {F' : Addr → Prop} (h : RsAt K od F B Hb H v r) (gr : Gr F H F') (k : Kx od H H') (g : Gd od n H) : RsAt K od F' B Hb H' v r := by
  cases r with
  | da d => exact (Dk.fk (k.fk g) h).mono gr.1
  | fr ds =>
    obtain ⟨a, e, l, z, f, b⟩ := h
    exact ⟨a, e, (k.lk g l).mono gr.1, z, gr.out f l.ne_none, b⟩
  | ow ds =>
    obtain ⟨a, e, l, f, b⟩ := h
    exact ⟨a, e, (k.lk g l).mono gr.1, gr.out f l.ne_none, b⟩
  | al ds =>
    obtain ⟨a, e, l⟩ := h
    exact ⟨a, e, (k.lk g l).mono gr.1⟩
  | dw => exact h
theorem RsAt.back {Ha Hb H : Hp} {v : V} {r : Rs} {m : Nat} (h : RsAt K od F B Hb H v r) (k : Kx od Ha Hb) (g : Gd od m Hb) : RsAt K od F B Ha H v r := by
  cases r with
  | da d => exact h
  | fr ds =>
    obtain ⟨a, e, l, z, f, b⟩ := h
    exact ⟨a, e, l, k.none g z, f, b⟩
  | ow ds => exact h
  | al ds => exact h
  | dw => exact h
theorem RsAll.step {Hb H H' : Hp} {vs : List V} {rs : List Rs} {F' : Addr → Prop} (h : RsAll K od F B Hb H vs rs) (gr : Gr F H F') (k : Kx od H H') (g : Gd od n H) : RsAll K od F' B Hb H' vs rs := by
  induction h with
  | nil => exact .nil
  | cons h t ne ih => exact .cons (h.step gr k g) ih ne
theorem RsAll.back {Ha Hb H : Hp} {vs : List V} {rs : List Rs} {m : Nat} (h : RsAll K od F B Hb H vs rs) (k : Kx od Ha Hb) (g : Gd od m Hb) : RsAll K od F B Ha H vs rs := by
  induction h with
  | nil => exact .nil
  | cons h t ne ih => exact .cons (h.back k g) ih ne
theorem RsAll.frNone {Hb H : Hp} {vs : List V} {rs : List Rs} (h : RsAll K od F B Hb H vs rs) : ∀ (k : Nat) es a, rs[k]? = some (.fr es) → vs[k]? = some (.ref a) → Hb a = none := by
  induction h with
  | nil =>
    intro k es a e
    simp at e
  | cons h t ne ih =>
    intro k es a e1 e2
    cases k with
    | zero =>
      cases e1
      cases e2
      obtain ⟨a', e, l, z, _⟩ := h
      cases e
      exact z
    | succ k => exact ih k es a e1 e2
theorem RsAt.ls {Hb H : Hp} {v : V} {r : Rs} {ds : List PyData} (h : RsAt K od F B Hb H v r) (e : r.lst? = some ds) : ∃ a, v = .ref a ∧ LK K F H a ds := by
  cases r with
  | da d =>
    cases d with
    | list ds' =>
      cases e
      obtain ⟨a, vs, rfl, e, _, t⟩ := Dk.lst' h
      exact ⟨a, rfl, vs, e, t⟩
    | _ => cases e
  | fr ds' =>
    cases e
    obtain ⟨a, e, l, _⟩ := h
    exact ⟨a, e, l⟩
  | ow ds' =>
    cases e
    obtain ⟨a, e, l, _⟩ := h
    exact ⟨a, e, l⟩
  | al ds' =>
    cases e
    exact h
  | dw => cases e
/-- what is put into a tuple or a list -/
def Rs.em : Rs → Option PyData
  | .da d => some d
  | .fr ds => some (.list ds)
  | _ => none
def emAll : List Rs → Option (List PyData)
  | [] => some []
  | r :: rs => match r.em, emAll rs with
    | some d, some ds => some (d :: ds)
    | _, _ => none
/-- .. is kept from then on -/
theorem RsAll.keep {Hb H : Hp} {vs : List V} {rs : List Rs} {ds : List PyData} (h : RsAll K od F B Hb H vs rs) (e : emAll rs = some ds) (hd : ∀ b, F b → H b ≠ none) : ∃ F' : Addr → Prop, (∀ b, F b → F' b) ∧ (∀ b, F' b → F b ∨ Hb b = none) ∧ (∀ b, F' b → H b ≠ none) ∧ (∀ b, F' b → F b ∨ ¬ B b) ∧ DkAll K F' H vs ds := by
  induction h generalizing ds with
  | nil =>
    cases e
    exact ⟨F, fun _ z => z, fun _ z => .inl z, hd, fun _ z => .inl z, .nil⟩
  | cons h t ne ih =>
    rename_i v r vs rs
    unfold emAll at e
    cases er : r.em with
    | none =>
      rw [er] at e
      cases e
    | some d =>
      cases es : emAll rs with
      | none =>
        rw [er, es] at e
        cases e
      | some ds' =>
        rw [er, es] at e
        cases e
        obtain ⟨F', f1, f2, f3, f4, ta⟩ := ih es
        cases r with
        | da d' =>
          cases er
          exact ⟨F', f1, f2, f3, f4, .cons (Dk.mono f1 h) ta⟩
        | fr es' =>
          cases er
          obtain ⟨a, rfl, ⟨ws, ea, tw⟩, z, na, nb⟩ := h
          refine ⟨fun b => F' b ∨ b = a, fun b z => .inl (f1 b z), fun b hb => hb.elim (f2 b) (fun e => .inr (by rw [e]; exact z)), fun b hb => hb.elim (f3 b) (fun e => by rw [e, ea]; intro z; cases z), fun b hb => hb.elim (f4 b) (fun e => .inr (by rw [e]; exact nb)), .cons (.lst ea (.inr rfl) ((tw.mono f1).mono fun _ z => .inl z)) (ta.mono fun _ z => .inl z)⟩
        | ow es' => cases er
        | al es' => cases er
        | dw => cases er
/-! rules: one for a construct -/
theorem Ev.w {t : TE} {r : Rs} {Q : Rs → Nat → Prop} (h : Ev K od t Γ r) (q : Q r n) : wE K od t Γ n Q := h n Q q
theorem w_mono {t : TE} {Q Q' : Rs → Nat → Prop} (h : wE K od t Γ n Q) (q : ∀ r m, Q r m → Q' r m) : wE K od t Γ n Q' := fun F B σ H f g R k => h F B σ H f g R fun v H' r m F' hq => k v H' r m F' (q r m hq)
theorem w_var {i : Nat} {d : PyData} {Q : Rs → Nat → Prop} (h : Γ[i]? = some (.da d)) (q : Q (.da d) n) : wE K od (tVar i) Γ n Q := by
  intro F B σ H f g R k
  obtain ⟨v, ev, x, rfl, dx⟩ := f.slot h
  exact ⟨x, ev, k x H _ n F q (Go.refl f g) dx⟩
theorem w_varO {i : Nat} {ds : List PyData} {Q : Rs → Nat → Prop} (h : Γ[i]? = some (.own ds)) (q : Q (.ow ds) n) : wE K od (tVar i) Γ n Q := by
  intro F B σ H f g R k
  obtain ⟨v, ev, a, rfl, l, b, b'⟩ := f.slot h
  exact ⟨_, ev, k _ H _ n F q (Go.refl f g) ⟨a, rfl, l, b, b'⟩⟩
theorem w_varR {i : Nat} {ds : List PyData} {Q : Rs → Nat → Prop} (h : Γ[i]? = some (.ro ds)) (q : Q (.al ds) n) : wE K od (tVar i) Γ n Q := by
  intro F B σ H f g R k
  obtain ⟨v, ev, a, rfl, l⟩ := f.slot h
  exact ⟨_, ev, k _ H _ n F q (Go.refl f g) ⟨a, rfl, l⟩⟩
theorem w_varD {i : Nat} {Q : Rs → Nat → Prop} (h : Γ[i]? = some .dw) (q : Q .dw n) : wE K od (tVar i) Γ n Q := by
  intro F B σ H f g R k
  obtain ⟨v, ev, p, e, rfl⟩ := f.slot h
  exact ⟨_, ev, k _ H _ n F q (Go.refl f g) ⟨p, e, rfl⟩⟩
theorem ev_var {i : Nat} {d : PyData} (h : Γ[i]? = some (.da d)) : Ev K od (tVar i) Γ (.da d) := fun _ _ q => w_var h q
theorem ev_varO {i : Nat} {ds : List PyData} (h : Γ[i]? = some (.own ds)) : Ev K od (tVar i) Γ (.ow ds) := fun _ _ q => w_varO h q
theorem ev_varR {i : Nat} {ds : List PyData} (h : Γ[i]? = some (.ro ds)) : Ev K od (tVar i) Γ (.al ds) := fun _ _ q => w_varR h q
theorem ev_varD {i : Nat} (h : Γ[i]? = some .dw) : Ev K od (tVar i) Γ .dw := fun _ _ q => w_varD h q
def Sl.rs? : Sl → Option Rs
  | .da d => some (.da d)
  | .own ds => some (.ow ds)
  | .ro ds => some (.al ds)
  | .dw => some .dw
  | .no => none
theorem ev_v {i : Nat} {r : Rs} (h : (Γ[i]?).bind Sl.rs? = some r) : Ev K od (tVar i) Γ r := by
  cases e : Γ[i]? with
  | none =>
    rw [e] at h
    cases h
  | some s =>
    rw [e] at h
    cases s with
    | no => cases h
    | da d =>
      cases h
      exact ev_var e
    | own ds =>
      cases h
      exact ev_varO e
    | ro ds =>
      cases h
      exact ev_varR e
    | dw =>
      cases h
      exact ev_varD e
theorem ev_int {i : Int} : Ev K od (tC (.int i)) Γ (.da (.int i)) := fun n Q q F B σ H f g R k => k _ H _ n F q (Go.refl f g) (.int i)
theorem ev_str {x : Str} : Ev K od (tC (.str x)) Γ (.da (.str x)) := fun n Q q F B σ H f g R k => k _ H _ n F q (Go.refl f g) (.str x)
theorem ev_bl {b : Bool} : Ev K od (tC (.bl b)) Γ (.da (.bool b)) := fun n Q q F B σ H f g R k => k _ H _ n F q (Go.refl f g) (.bl b)
theorem ev_non : Ev K od (tC .non) Γ (.da .none) := fun n Q q F B σ H f g R k => k _ H _ n F q (Go.refl f g) .non
/-- a global: a tuple, a text, a number of the module -/
theorem ev_glob {v : V} {d : PyData} (h : ∀ F H, Dk K F H v d) : Ev K od (tC v) Γ (.da d) := fun n Q q F B σ H f g R k => k _ H _ n F q (Go.refl f g) (h F H)
theorem w_nil {Q : List Rs → Nat → Prop} (q : Q [] n) : wA K od tNil Γ n Q := fun F B σ H f g R k => k _ H _ n F q (Go.refl f g) .nil
theorem w_cons {t : TE} {u : TA} {Q : List Rs → Nat → Prop} (h : wE K od t Γ n fun r m => wA K od u Γ m fun rs m' => Q (r :: rs) m') : wA K od (tCons t u) Γ n Q := by
  intro F B σ H f g R k
  refine h F B σ H f g _ fun v H1 r m F1 hu o1 a1 => hu F1 B σ H1 o1.f o1.g _ fun vs H2 rs m' F2 q o2 a2 => ?_
  refine k _ H2 _ m' F2 q (o1.trans o2) (.cons (a1.step o2.gr o2.k o1.g) (a2.back o1.k o1.g) fun ds er j es e1 e2 => ?_)
  subst er
  obtain ⟨a, rfl, l, _⟩ := a1
  exact l.ne_none (a2.frNone j es a e1 e2)
theorem ev_nil : EvA K od tNil Γ [] := fun _ _ q => w_nil q
theorem ev_cons {t : TE} {u : TA} {r : Rs} {rs : List Rs} (h : Ev K od t Γ r) (hu : EvA K od u Γ rs) : EvA K od (tCons t u) Γ (r :: rs) := fun _ _ q => w_cons (h.w (hu _ _ q))
theorem w_op {o : R2} {a b : TE} {Q : Rs → Nat → Prop} (h : wE K od a Γ n fun x m => wE K od b Γ m fun y m' => ∃ z, R2D K od o x y z ∧ Q z m') : wE K od (tOp o a b) Γ n Q := by
  intro F B σ H f g R k
  refine h F B σ H f g _ fun v H1 x m F1 hb o1 a1 => hb F1 B σ H1 o1.f o1.g _ fun u H2 y m' F2 q o2 a2 => ?_
  obtain ⟨z, dz, q⟩ := q
  have o12 := o1.trans o2
  exact dz F2 B H H2 m' v u o2.g o2.f.dm (a1.step o2.gr o2.k o1.g) (a2.back o1.k o1.g) R fun w H3 s3 a3 => k w H3 z m' F2 q (o12.same s3) (a3.back o12.k o2.g)
theorem ev_op {o : R2} {a b : TE} {x y z : Rs} (ha : Ev K od a Γ x) (hb : Ev K od b Γ y) (d : R2D K od o x y z) : Ev K od (tOp o a b) Γ z := fun _ _ q => w_op (ha.w (hb.w ⟨z, d, q⟩))
theorem w_un {o : V → Hp → VK → Prop} {a : TE} {Q : Rs → Nat → Prop} (h : wE K od a Γ n fun x m => ∃ z, U1D K od o x z ∧ Q z m) : wE K od (tUn o a) Γ n Q := by
  intro F B σ H f g R k
  refine h F B σ H f g _ fun v H1 x m F1 q o1 a1 => ?_
  obtain ⟨z, dz, q⟩ := q
  exact dz F1 B H H1 m v o1.g o1.f.dm a1 R fun w H3 s3 a3 => k w H3 z m F1 q (o1.same s3) (a3.back o1.k o1.g)
theorem ev_un {o : V → Hp → VK → Prop} {a : TE} {x z : Rs} (ha : Ev K od a Γ x) (d : U1D K od o x z) : Ev K od (tUn o a) Γ z := fun _ _ q => w_un (ha.w ⟨z, d, q⟩)
theorem w_cb {o : List V → Hp → VK → Prop} {a : TA} {Q : Rs → Nat → Prop} (h : wA K od a Γ n fun xs m => ∃ z, CBD K od o xs z ∧ Q z m) : wE K od (tCB o a) Γ n Q := by
  intro F B σ H f g R k
  refine h F B σ H f g _ fun v H1 x m F1 q o1 a1 => ?_
  obtain ⟨z, dz, q⟩ := q
  exact dz F1 B H H1 m v o1.g o1.f.dm a1 R fun w H3 s3 a3 => k w H3 z m F1 q (o1.same s3) (a3.back o1.k o1.g)
theorem ev_cb {o : List V → Hp → VK → Prop} {a : TA} {xs : List Rs} {z : Rs} (ha : EvA K od a Γ xs) (d : CBD K od o xs z) : Ev K od (tCB o a) Γ z := fun _ _ q => w_cb (ha _ _ ⟨z, d, q⟩)
theorem ev_np : EvO K od tNoPart Γ none := fun n Q q F B σ H f g R k => k _ H n F q (Go.refl f g)
theorem w_pt {t : TE} {Q : Option Int → Nat → Prop} (h : wE K od t Γ n fun r m => ∃ i, r = .da (.int i) ∧ Q (some i) m) : wO K od (tPart t) Γ n Q := by
  intro F B σ H f g R k
  refine h F B σ H f g _ fun v H1 x m F1 q o1 a1 => ?_
  obtain ⟨i, rfl, q⟩ := q
  exact ⟨i, Dk.int' a1, k _ H1 m F1 q o1⟩
theorem ev_pt {t : TE} {i : Int} (h : Ev K od t Γ (.da (.int i))) : EvO K od (tPart t) Γ (some i) := fun _ _ q => w_pt (h.w ⟨i, rfl, q⟩)
theorem ev_sl {o : V → Option Int → Option Int → Hp → VK → Prop} {a : TE} {l u : TO} {x z : Rs} {lo hi : Option Int} (ha : Ev K od a Γ x) (hl : EvO K od l Γ lo) (hu : EvO K od u Γ hi) (d : SlD K od o x lo hi z) : Ev K od (tSl o a l u) Γ z := by
  intro n Q q F B σ H f g R k
  refine ha n (fun r m => r = x ∧ m = n) ⟨rfl, rfl⟩ F B σ H f g _ fun v H1 x' m F1 e o1 a1 => ?_
  obtain ⟨rfl, rfl⟩ := e
  refine hl m (fun r m' => r = lo ∧ m' = m) ⟨rfl, rfl⟩ F1 B σ H1 o1.f o1.g _ fun o' H2 m' F2 e o2 => ?_
  obtain ⟨rfl, rfl⟩ := e
  refine hu m' (fun r m2 => r = hi ∧ m2 = m') ⟨rfl, rfl⟩ F2 B σ H2 o2.f o2.g _ fun o3 H3 m2 F3 e o3 => ?_
  obtain ⟨rfl, rfl⟩ := e
  have o13 := (o1.trans o2).trans o3
  exact d F3 B H H3 m2 v o3.g o3.f.dm ((a1.step o2.gr o2.k o1.g).step o3.gr o3.k o2.g) R fun w H4 s4 a4 => k w H4 z m2 F3 q (o13.same s4) (a4.back o13.k o3.g)
theorem Go.keep {σ : L2.St} {H H1 : Hp} {F1 F2 : Addr → Prop} {m : Nat} (o : Go K od F B Γ σ H F1 H1 m) (f : Fits K od F B Γ σ H) (h1 : ∀ b, F1 b → F2 b) (h2 : ∀ b, F2 b → F1 b ∨ H b = none) (h3 : ∀ b, F2 b → H1 b ≠ none) : Go K od F B Γ σ H F2 H1 m := by
  have gr : Gr F H F2 := ⟨fun b z => h1 b (o.gr.1 b z), fun b z => (h2 b z).elim (o.gr.2 b) .inr⟩
  refine ⟨gr, o.k, o.g, o.f.len, fun i s v hs hv => ?_, f.sep, o.f.dom, h3, f.cel⟩
  have z := o.f.at_ i s v hs hv
  have z0 := f.at_ i s v hs hv
  cases s with
  | no => trivial
  | da d =>
    obtain ⟨x, e, t⟩ := z
    exact ⟨x, e, t.mono h1⟩
  | own ds =>
    obtain ⟨a, e, l, nf, nb⟩ := z
    obtain ⟨a0, e0, l0, _⟩ := z0
    rw [e] at e0
    cases e0
    exact ⟨a, e, l.mono h1, fun y => (h2 a y).elim nf l0.ne_none, nb⟩
  | ro ds =>
    obtain ⟨a, e, l⟩ := z
    exact ⟨a, e, l.mono h1⟩
  | dw => exact z
theorem w_tup {a : TA} {Q : Rs → Nat → Prop} (h : wA K od a Γ n fun xs m => ∃ ds, emAll xs = some ds ∧ ds.length ≤ 30000 ∧ Q (.da (.tuple ds)) m) : wE K od (tTup a) Γ n Q := by
  intro F B σ H f g R k
  refine h F B σ H f g _ fun vs H1 xs m F1 q o1 a1 => ?_
  obtain ⟨ds, em, hl, q⟩ := q
  obtain ⟨F2, f1, f2, f3, f4, t⟩ := a1.keep em o1.f.domF
  have o2 := o1.keep f f1 f2 f3
  refine ⟨?_, fun p np => ?_⟩
  · rw [t.len]
    exact Nat.le_of_lt (len20k hl)
  · obtain ⟨s, e⟩ := nxo (o := .tup vs) np
    exact k _ _ _ m F2 q (o2.same s) (.tup (.inl e) (t.fk (Same.fk s)))
theorem ev_tup {a : TA} {rs : List Rs} {ds : List PyData} (h : EvA K od a Γ rs) (em : emAll rs = some ds) (hl : ds.length ≤ 30000) : Ev K od (tTup a) Γ (.da (.tuple ds)) := fun _ _ q => w_tup (h _ _ ⟨ds, em, hl, q⟩)
theorem w_lst {a : TA} {Q : Rs → Nat → Prop} (h : wA K od a Γ n fun xs m => ∃ ds, emAll xs = some ds ∧ ds.length ≤ 30000 ∧ Q (.fr ds) m) : wE K od (tLst a) Γ n Q := by
  intro F B σ H f g R k
  refine h F B σ H f g _ fun vs H1 xs m F1 q o1 a1 => ?_
  obtain ⟨ds, em, hl, q⟩ := q
  obtain ⟨F2, f1, f2, f3, f4, t⟩ := a1.keep em o1.f.domF
  have o2 := o1.keep f f1 f2 f3
  refine ⟨?_, fun p np => ?_⟩
  · rw [t.len]
    exact Nat.le_of_lt (len20k hl)
  · obtain ⟨s, e⟩ := nxo (o := .lst vs) np
    exact k _ _ _ m F2 q (o2.same s) ⟨p, rfl, ⟨vs, e, t.fk (Same.fk s)⟩, o1.k.none o1.g np, fun z => f3 p z np, fun z => o1.f.dom p z np⟩
theorem ev_lst {a : TA} {rs : List Rs} {ds : List PyData} (h : EvA K od a Γ rs) (em : emAll rs = some ds) (hl : ds.length ≤ 30000) : Ev K od (tLst a) Γ (.fr ds) := fun _ _ q => w_lst (h _ _ ⟨ds, em, hl, q⟩)
/-! tests -/
theorem w_test {t : TE} {Q : Bool → Nat → Prop} (h : wE K od t Γ n fun r m => ∃ b, r = .da (.bool b) ∧ Q b m) : wT K od (tTest t) Γ n Q := by
  intro F B σ H f g R k
  refine h F B σ H f g _ fun v H1 x m F1 q o1 a1 => ?_
  obtain ⟨b, rfl, q⟩ := q
  exact ⟨b, Dk.bl' a1, k _ H1 m F1 q o1⟩
theorem w_tB {t : TE} {Q : Bool → Nat → Prop} (h : wE K od t Γ n fun r m => ∃ b, r = .da (.bool b) ∧ Q b m) : wT K od (tB t) Γ n Q := w_test h
theorem ev_test {t : TE} {b : Bool} (h : Ev K od t Γ (.da (.bool b))) : EvT K od (tTest t) Γ b := fun _ _ q => w_test (h.w ⟨b, rfl, q⟩)
theorem ev_tB {t : TE} {b : Bool} (h : Ev K od t Γ (.da (.bool b))) : EvT K od (tB t) Γ b := fun _ _ q => w_tB (h.w ⟨b, rfl, q⟩)
theorem w_not {t : TT} {Q : Bool → Nat → Prop} (h : wT K od t Γ n fun b m => Q (!b) m) : wT K od (tNot t) Γ n Q := fun F B σ H f g R k => h F B σ H f g _ fun b H' m F' q => k _ H' m F' q
theorem ev_not {t : TT} {b : Bool} (h : EvT K od t Γ b) : EvT K od (tNot t) Γ (!b) := fun _ _ q => w_not (h _ _ q)
theorem w_and {t u : TT} {Q : Bool → Nat → Prop} (h : wT K od t Γ n fun b m => if b = true then wT K od u Γ m Q else Q false m) : wT K od (tAnd t u) Γ n Q := by
  intro F B σ H f g R k
  refine h F B σ H f g _ fun b H1 m F1 q o1 => ?_
  cases b with
  | true => exact iteT (q F1 B σ H1 o1.f o1.g R fun b H2 m' F2 q' o2 => k b H2 m' F2 q' (o1.trans o2))
  | false => exact iteF (k _ _ _ F1 q o1)
theorem w_or {t u : TT} {Q : Bool → Nat → Prop} (h : wT K od t Γ n fun b m => if b = true then Q true m else wT K od u Γ m Q) : wT K od (tOr t u) Γ n Q := by
  intro F B σ H f g R k
  refine h F B σ H f g _ fun b H1 m F1 q o1 => ?_
  cases b with
  | false => exact iteF (q F1 B σ H1 o1.f o1.g R fun b H2 m' F2 q' o2 => k b H2 m' F2 q' (o1.trans o2))
  | true => exact iteT (k _ _ _ F1 q o1)
theorem ev_and {t u : TT} {b c : Bool} (h : EvT K od t Γ b) (hu : b = true → EvT K od u Γ c) : EvT K od (tAnd t u) Γ (b && c) := fun n Q q => w_and (h _ _ (by
  cases b with
  | true => exact iteT (hu rfl _ _ q)
  | false => exact iteF q))
theorem ev_or {t u : TT} {b c : Bool} (h : EvT K od t Γ b) (hu : b = false → EvT K od u Γ c) : EvT K od (tOr t u) Γ (b || c) := fun n Q q => w_or (h _ _ (by
  cases b with
  | true => exact iteT q
  | false => exact iteF (hu rfl _ _ q)))
theorem ev_yes : EvT K od tYes Γ true := fun n Q q F B σ H f g R k => k _ H n F q (Go.refl f g)
theorem w_if {t : TT} {a b : TE} {Q : Rs → Nat → Prop} (h : wT K od t Γ n fun c m => if c = true then wE K od a Γ m Q else wE K od b Γ m Q) : wE K od (tIf t a b) Γ n Q := by
  intro F B σ H f g R k
  refine h F B σ H f g _ fun c H1 m F1 q o1 => ?_
  cases c with
  | true => exact iteT ((show wE K od a Γ m Q from q) F1 B σ H1 o1.f o1.g R fun v H2 r m' F2 q' o2 a2 => k v H2 r m' F2 q' (o1.trans o2) (a2.back o1.k o1.g))
  | false => exact iteF ((show wE K od b Γ m Q from q) F1 B σ H1 o1.f o1.g R fun v H2 r m' F2 q' o2 a2 => k v H2 r m' F2 q' (o1.trans o2) (a2.back o1.k o1.g))
theorem ev_if {t : TT} {a b : TE} {c : Bool} {x y : Rs} (h : EvT K od t Γ c) (ha : c = true → Ev K od a Γ x) (hb : c = false → Ev K od b Γ y) : Ev K od (tIf t a b) Γ (if c = true then x else y) := fun n Q q => w_if (h _ _ (by
  cases c with
  | true => exact iteT ((ha rfl).w q)
  | false => exact iteF ((hb rfl).w q)))
theorem ev_ifD {t : TT} {a b : TE} {c : Bool} {x y : PyData} (h : EvT K od t Γ c) (ha : c = true → Ev K od a Γ (.da x)) (hb : c = false → Ev K od b Γ (.da y)) : Ev K od (tIf t a b) Γ (.da (if c = true then x else y)) := by
  have := ev_if h ha hb
  cases c <;> exact this
def isN : PyData → Bool
  | .none => true
  | _ => false
theorem ev_isN {t : TE} {d : PyData} (h : Ev K od t Γ (.da d)) : Ev K od (tIsN t) Γ (.da (.bool (isN d))) := by
  intro n Q q F B σ H f g R k
  refine h n (fun r m => r = .da d ∧ m = n) ⟨rfl, rfl⟩ F B σ H f g _ fun v H1 x m F1 e o1 a1 => ?_
  obtain ⟨rfl, rfl⟩ := e
  refine k _ H1 _ m F1 q o1 ?_
  cases a1 <;> exact .bl _
theorem ev_notN {t : TE} {d : PyData} (h : Ev K od t Γ (.da d)) : Ev K od (tNotN t) Γ (.da (.bool (!isN d))) := by
  intro n Q q F B σ H f g R k
  refine h n (fun r m => r = .da d ∧ m = n) ⟨rfl, rfl⟩ F B σ H f g _ fun v H1 x m F1 e o1 a1 => ?_
  obtain ⟨rfl, rfl⟩ := e
  refine k _ H1 _ m F1 q o1 ?_
  cases a1 <;> exact .bl _
theorem ev_andV {t u : TE} {b c : Bool} (h : Ev K od t Γ (.da (.bool b))) (hu : b = true → Ev K od u Γ (.da (.bool c))) : Ev K od (tAndV t u) Γ (.da (.bool (b && c))) := by
  intro n Q q F B σ H f g R k
  refine h n (fun r m => r = .da (.bool b) ∧ m = n) ⟨rfl, rfl⟩ F B σ H f g _ fun v H1 x m F1 e o1 a1 => ?_
  obtain ⟨rfl, rfl⟩ := e
  refine ⟨b, Dk.bl' a1, ?_⟩
  cases b with
  | true => exact iteT ((hu rfl).w q F1 B σ H1 o1.f o1.g R fun v H2 r m' F2 q' o2 a2 => k v H2 r m' F2 q' (o1.trans o2) (a2.back o1.k o1.g))
  | false => exact iteF (k _ H1 _ m F1 q o1 (.bl false))
theorem ev_orV {t u : TE} {b c : Bool} (h : Ev K od t Γ (.da (.bool b))) (hu : b = false → Ev K od u Γ (.da (.bool c))) : Ev K od (tOrV t u) Γ (.da (.bool (b || c))) := by
  intro n Q q F B σ H f g R k
  refine h n (fun r m => r = .da (.bool b) ∧ m = n) ⟨rfl, rfl⟩ F B σ H f g _ fun v H1 x m F1 e o1 a1 => ?_
  obtain ⟨rfl, rfl⟩ := e
  refine ⟨b, Dk.bl' a1, ?_⟩
  cases b with
  | false => exact iteF ((hu rfl).w q F1 B σ H1 o1.f o1.g R fun v H2 r m' F2 q' o2 a2 => k v H2 r m' F2 q' (o1.trans o2) (a2.back o1.k o1.g))
  | true => exact iteT (k _ H1 _ m F1 q o1 (.bl true))
theorem ev_notV {t : TE} {b : Bool} (h : Ev K od t Γ (.da (.bool b))) : Ev K od (tNotV t) Γ (.da (.bool (!b))) := by
  intro n Q q F B σ H f g R k
  refine h n (fun r m => r = .da (.bool b) ∧ m = n) ⟨rfl, rfl⟩ F B σ H f g _ fun v H1 x m F1 e o1 a1 => ?_
  obtain ⟨rfl, rfl⟩ := e
  exact ⟨b, Dk.bl' a1, k _ H1 _ m F1 q o1 (.bl _)⟩
end
end Pb

namespace Pb
open PySem PySem.Spec PyProof.Rows L2 TL
/-! ### operators and built-ins by data -/
section
variable {K : PySem.W.Frag} {od : Md} {F : Addr → Prop}
theorem DkAll.atI {H : Hp} {vs : List V} {ds : List PyData} (t : DkAll K F H vs ds) {i : Int} {d : PyData} (h : atI ds i = some d) : ∃ v, L2.atI vs i = some v ∧ Dk K F H v d := by
  unfold L2.atI at h ⊢
  rw [t.len]
  cases e : ixN ds.length i with
  | none =>
    rw [e] at h
    cases h
  | some j =>
    rw [e] at h
    obtain ⟨v, g, dv⟩ := t.get j d h
    exact ⟨v, g, dv⟩
theorem d_ii {f : Int → Int → Int} {i j : Int} : R2D K od (rI0 fun i j => .int (f i j)) (.da (.int i)) (.da (.int j)) (.da (.int (f i j))) := fun F B Ha H n v u g dm a b R k => ⟨i, j, Dk.int' a, Dk.int' b, k _ H (Same.refl _) (.int _)⟩
theorem d_ib {f : Int → Int → Bool} {i j : Int} : R2D K od (rI0 fun i j => .bl (f i j)) (.da (.int i)) (.da (.int j)) (.da (.bool (f i j))) := fun F B Ha H n v u g dm a b R k => ⟨i, j, Dk.int' a, Dk.int' b, k _ H (Same.refl _) (.bl _)⟩
theorem d_iic {C : Int → Int → Prop} {f : Int → Int → Int} {i j : Int} (h : C i j) : R2D K od (rI C fun i j => .int (f i j)) (.da (.int i)) (.da (.int j)) (.da (.int (f i j))) := fun F B Ha H n v u g dm a b R k => ⟨i, j, Dk.int' a, Dk.int' b, h, k _ H (Same.refl _) (.int _)⟩
theorem d_ixT {ds : List PyData} {i : Int} {d : PyData} (h : atI ds i = some d) : R2D K od (rIxT K) (.da (.tuple ds)) (.da (.int i)) (.da d) := by
  intro F B Ha H n v u g dm a b R k
  obtain ⟨p, vs, rfl, e, t⟩ := Dk.tup' a
  obtain ⟨x, ex, dx⟩ := t.atI h
  exact ⟨p, vs, i, x, rfl, Dk.int' b, e.sq, ex, k _ H (Same.refl _) dx⟩
theorem d_ixL {x : Rs} {ds : List PyData} {i : Int} {d : PyData} (hx : x.lst? = some ds) (h : atI ds i = some d) : R2D K od (rIxL K) x (.da (.int i)) (.da d) := by
  intro F B Ha H n v u g dm a b R k
  obtain ⟨p, rfl, vs, e, t⟩ := a.ls hx
  obtain ⟨x, ex, dx⟩ := t.atI h
  exact ⟨p, vs, i, x, rfl, Dk.int' b, .of e, ex, k _ H (Same.refl _) dx⟩
theorem d_ixS {z : Str} {i : Int} {c : Nat} (hz : z.length ≤ sizeLine) (h : atI z.cps.toList i = some c) : R2D K od rIxS (.da (.str z)) (.da (.int i)) (.da (.str ⟨#[c]⟩)) := fun F B Ha H n v u g dm a b R k => ⟨z, i, c, Dk.str' a, Dk.int' b, hz, h, k _ H (Same.refl _) (.str _)⟩
def cutD {α : Type} (xs : List α) (lo hi : Option Int) : List α := (xs.drop (HT.sIx xs.length 0 lo)).take (HT.sIx xs.length xs.length hi - HT.sIx xs.length 0 lo)
theorem DkAll.cut {H : Hp} {vs : List V} {ds : List PyData} (t : DkAll K F H vs ds) (lo hi : Option Int) : DkAll K F H (cutV vs lo hi) (cutD ds lo hi) := by
  unfold cutV cutD
  rw [t.len]
  exact (t.drop _).take _
theorem cutD_whole {α : Type} {xs : List α} {lo hi : Option Int} (h : HT.sIx xs.length 0 lo = 0 ∧ HT.sIx xs.length xs.length hi = xs.length) : cutD xs lo hi = xs := by
  unfold cutD
  rw [h.1, h.2, List.drop_zero, Nat.sub_zero, List.take_length]
theorem d_slA {ds : List PyData} {lo hi : Option Int} : SlD K od (rSlA K) (.da (.tuple ds)) lo hi (.da (.tuple (cutD ds lo hi))) := by
  intro F B Ha H n v g dm a R k
  obtain ⟨p, vs, rfl, e, t⟩ := Dk.tup' a
  refine ⟨p, vs, rfl, e.sq, fun hw => ?_, fun _ q nq => ?_⟩
  · have : cutD ds lo hi = ds := cutD_whole (by rw [← t.len]; exact hw)
    refine k _ H (Same.refl _) ?_
    rw [this]
    exact a
  · obtain ⟨s, e'⟩ := nxo (o := .tup (cutV vs lo hi)) nq
    exact k _ _ s (.tup (.inl e') ((t.cut lo hi).fk (Same.fk s)))
theorem d_slL {x : Rs} {ds : List PyData} {lo hi : Option Int} (hx : x.lst? = some ds) : SlD K od (rSlL K) x lo hi (.fr (cutD ds lo hi)) := by
  intro F B Ha H n v g dm a R k
  obtain ⟨p, rfl, vs, e, t⟩ := a.ls hx
  refine ⟨p, vs, rfl, .of e, fun q nq => ?_⟩
  obtain ⟨s, e'⟩ := nxo (o := .lst (cutV vs lo hi)) nq
  exact k _ _ s ⟨q, rfl, ⟨_, e', (t.cut lo hi).fk (Same.fk s)⟩, nq, fun z => dm q (.inl z) nq, fun z => dm q (.inr z) nq⟩
theorem d_slS {z : Str} {lo hi : Option Int} (hz : z.length ≤ sizeLine) : SlD K od rSlS (.da (.str z)) lo hi (.da (.str (cutS z lo hi))) := fun F B Ha H n v g dm a R k => ⟨z, Dk.str' a, hz, k _ H (Same.refl _) (.str _)⟩
theorem d_catA {ds es : List PyData} (hl : ds.length + es.length ≤ 30000) : R2D K od (rCatA K) (.da (.tuple ds)) (.da (.tuple es)) (.da (.tuple (ds ++ es))) := by
  intro F B Ha H n v u g dm a b R k
  obtain ⟨p, vs, rfl, e, t⟩ := Dk.tup' a
  obtain ⟨p2, us, rfl, e2, t2⟩ := Dk.tup' b
  refine ⟨p, p2, vs, us, rfl, rfl, e.sq, e2.sq, ?_, fun z => ?_, fun _ z => ?_, fun _ _ q nq => ?_⟩
  · rw [t.len, t2.len]
    exact Nat.le_of_lt (len20k hl)
  · subst z
    cases t
    exact k _ H (Same.refl _) b
  · subst z
    cases t2
    refine k _ H (Same.refl _) ?_
    rw [List.append_nil]
    exact a
  · obtain ⟨s, e'⟩ := nxo (o := .tup (vs ++ us)) nq
    exact k _ _ s (.tup (.inl e') ((t.app t2).fk (Same.fk s)))
theorem d_catL {x y : Rs} {ds es : List PyData} (hx : x.lst? = some ds) (hy : y.lst? = some es) (hl : ds.length + es.length ≤ 30000) : R2D K od (rCatS K) x y (.fr (ds ++ es)) := by
  intro F B Ha H n v u g dm a b R k
  obtain ⟨p, rfl, vs, e, t⟩ := a.ls hx
  obtain ⟨p2, rfl, us, e2, t2⟩ := b.ls hy
  refine ⟨p, p2, vs, us, rfl, rfl, .of e, .of e2, ?_, fun q nq => ?_⟩
  · rw [t.len, t2.len]
    exact Nat.le_of_lt (len20k hl)
  · obtain ⟨s, e'⟩ := nxo (o := .lst (vs ++ us)) nq
    exact k _ _ s ⟨q, rfl, ⟨_, e', (t.app t2).fk (Same.fk s)⟩, nq, fun z => dm q (.inl z) nq, fun z => dm q (.inr z) nq⟩
theorem d_addS {y z : Str} (h : y.length + z.length ≤ sizeLine) : R2D K od (fun x y H Q => ∃ i j, x = .str i ∧ y = .str j ∧ i.length + j.length ≤ sizeLine ∧ Q (.str (i ++ j)) H) (.da (.str y)) (.da (.str z)) (.da (.str (y ++ z))) := fun F B Ha H n v u g dm a b R k => ⟨y, z, Dk.str' a, Dk.str' b, h, k _ H (Same.refl _) (.str _)⟩
theorem d_ltS {y z : Str} : R2D K od (fun x y H Q => ∃ i j, x = .str i ∧ y = .str j ∧ Q (.bl (decide (i.cps.toList < j.cps.toList))) H) (.da (.str y)) (.da (.str z)) (.da (.bool (decide (y.cps.toList < z.cps.toList)))) := fun F B Ha H n v u g dm a b R k => ⟨y, z, Dk.str' a, Dk.str' b, k _ H (Same.refl _) (.bl _)⟩
theorem d_eqS {y z : Str} : R2D K od rEq (.da (.str y)) (.da (.str z)) (.da (.bool (decide (y = z)))) := by
  intro F B Ha H n v u g dm a b R k
  rw [Dk.str' a, Dk.str' b]
  refine ⟨rfl, ?_⟩
  have e : decide (V.str y = V.str z) = decide (y = z) := by
    by_cases h : y = z <;> simp [h]
  rw [e]
  exact k _ H (Same.refl _) (.bl _)
theorem d_neS {y z : Str} : R2D K od rNe (.da (.str y)) (.da (.str z)) (.da (.bool (!decide (y = z)))) := by
  intro F B Ha H n v u g dm a b R k
  rw [Dk.str' a, Dk.str' b]
  refine ⟨rfl, ?_⟩
  have e : decide (V.str y = V.str z) = decide (y = z) := by
    by_cases h : y = z <;> simp [h]
  rw [e]
  exact k _ H (Same.refl _) (.bl _)
theorem d_eqI {y z : Int} : R2D K od rEq (.da (.int y)) (.da (.int z)) (.da (.bool (decide (y = z)))) := by
  intro F B Ha H n v u g dm a b R k
  rw [Dk.int' a, Dk.int' b]
  refine ⟨rfl, ?_⟩
  have e : decide (V.int y = V.int z) = decide (y = z) := by
    by_cases h : y = z <;> simp [h]
  rw [e]
  exact k _ H (Same.refl _) (.bl _)
theorem d_neI {y z : Int} : R2D K od rNe (.da (.int y)) (.da (.int z)) (.da (.bool (!decide (y = z)))) := by
  intro F B Ha H n v u g dm a b R k
  rw [Dk.int' a, Dk.int' b]
  refine ⟨rfl, ?_⟩
  have e : decide (V.int y = V.int z) = decide (y = z) := by
    by_cases h : y = z <;> simp [h]
  rw [e]
  exact k _ H (Same.refl _) (.bl _)
theorem d_eqB {y z : Bool} : R2D K od rEq (.da (.bool y)) (.da (.bool z)) (.da (.bool (decide (y = z)))) := by
  intro F B Ha H n v u g dm a b R k
  rw [Dk.bl' a, Dk.bl' b]
  refine ⟨rfl, ?_⟩
  have e : decide (V.bl y = V.bl z) = decide (y = z) := by
    by_cases h : y = z <;> simp [h]
  rw [e]
  exact k _ H (Same.refl _) (.bl _)
theorem d_neB {y z : Bool} : R2D K od rNe (.da (.bool y)) (.da (.bool z)) (.da (.bool (!decide (y = z)))) := by
  intro F B Ha H n v u g dm a b R k
  rw [Dk.bl' a, Dk.bl' b]
  refine ⟨rfl, ?_⟩
  have e : decide (V.bl y = V.bl z) = decide (y = z) := by
    by_cases h : y = z <;> simp [h]
  rw [e]
  exact k _ H (Same.refl _) (.bl _)
/-- the whole as data -/
def Rs.pd : Rs → Option PyData
  | .da d => some d
  | .fr ds => some (.list ds)
  | .ow ds => some (.list ds)
  | .al ds => some (.list ds)
  | .dw => none
theorem RsAt.dp {B : Addr → Prop} {Hb H : Hp} {v : V} {r : Rs} {d : PyData} (h : RsAt K od F B Hb H v r) (e : r.pd = some d) : Dp K H v d := by
  cases r with
  | da d' =>
    cases e
    exact Dk.dp h
  | fr ds' =>
    cases e
    obtain ⟨a, rfl, l, _⟩ := h
    exact l.dp
  | ow ds' =>
    cases e
    obtain ⟨a, rfl, l, _⟩ := h
    exact l.dp
  | al ds' =>
    cases e
    obtain ⟨a, rfl, l⟩ := h
    exact l.dp
  | dw => cases e
theorem d_eqD {x y : Rs} {d e : PyData} (hx : x.pd = some d) (hy : y.pd = some e) (s1 : SeqAt.shaped d = true) (s2 : SeqAt.shaped e = true) : R2D K od (rEqD K) x y (.da (.bool (PyData.eqv d e))) := fun F B Ha H n v u g dm a b R k => ⟨d, e, a.dp hx, b.dp hy, s1, s2, k _ H (Same.refl _) (.bl _)⟩
theorem d_neD {x y : Rs} {d e : PyData} (hx : x.pd = some d) (hy : y.pd = some e) (s1 : SeqAt.shaped d = true) (s2 : SeqAt.shaped e = true) : R2D K od (rNeD K) x y (.da (.bool (!PyData.eqv d e))) := fun F B Ha H n v u g dm a b R k => ⟨d, e, a.dp hx, b.dp hy, s1, s2, k _ H (Same.refl _) (.bl _)⟩
theorem d_inD {x y : Rs} {d : PyData} {ds : List PyData} (hx : x.pd = some d) (hy : y.pd = some (.list ds)) (s1 : SeqAt.shaped d = true) (s2 : SeqAt.shaped (.list ds) = true) : R2D K od (rInD K) x y (.da (.bool (ds.any fun z => PyData.eqv z d))) := fun F B Ha H n v u g dm a b R k => ⟨d, ds, a.dp hx, b.dp hy, s1, s2, k _ H (Same.refl _) (.bl _)⟩
theorem d_ninD {x y : Rs} {d : PyData} {ds : List PyData} (hx : x.pd = some d) (hy : y.pd = some (.list ds)) (s1 : SeqAt.shaped d = true) (s2 : SeqAt.shaped (.list ds) = true) : R2D K od (rNotInD K) x y (.da (.bool (!ds.any fun z => PyData.eqv z d))) := fun F B Ha H n v u g dm a b R k => ⟨d, ds, a.dp hx, b.dp hy, s1, s2, k _ H (Same.refl _) (.bl _)⟩
/-- what can be walked, read: a list or a tuple of such -/
def Rs.sq? : Rs → Option (List PyData)
  | .da (.tuple ds) => some ds
  | .da (.list ds) => some ds
  | .fr ds => some ds
  | .ow ds => some ds
  | .al ds => some ds
  | _ => none
theorem RsAt.sq {B : Addr → Prop} {Hb H : Hp} {v : V} {r : Rs} {ds : List PyData} (h : RsAt K od F B Hb H v r) (e : r.sq? = some ds) : ∃ a vs, v = .ref a ∧ DkAll K F H vs ds ∧ ((H a = some (.lst vs)) ∨ (TupIn K H a vs ∧ r = .da (.tuple ds))) := by
  cases r with
  | da d' =>
    cases d' with
    | tuple ds' =>
      cases e
      obtain ⟨a, vs, rfl, e, t⟩ := Dk.tup' h
      exact ⟨a, vs, rfl, t, .inr ⟨e, rfl⟩⟩
    | list ds' =>
      cases e
      obtain ⟨a, vs, rfl, e, _, t⟩ := Dk.lst' h
      exact ⟨a, vs, rfl, t, .inl e⟩
    | _ => cases e
  | fr ds' =>
    cases e
    obtain ⟨a, rfl, ⟨vs, e, t⟩, _⟩ := h
    exact ⟨a, vs, rfl, t, .inl e⟩
  | ow ds' =>
    cases e
    obtain ⟨a, rfl, ⟨vs, e, t⟩, _⟩ := h
    exact ⟨a, vs, rfl, t, .inl e⟩
  | al ds' =>
    cases e
    obtain ⟨a, rfl, ⟨vs, e, t⟩⟩ := h
    exact ⟨a, vs, rfl, t, .inl e⟩
  | dw => cases e
theorem inV_str (x : Str) (xs : List Str) : inV (.str x) (xs.map V.str) = decide (x ∈ xs) := by
  unfold inV
  induction xs with
  | nil => rfl
  | cons y r ih =>
    rw [List.map_cons, List.any_cons, ih]
    have e : eqV (.str y) (.str x) = decide (x = y) := by
      show (y == x) = _
      by_cases h : x = y <;> simp [h]
      intro z
      exact h z.symm
    rw [e]
    by_cases h : x = y <;> simp [h]
theorem all_flat_str (xs : List Str) : (xs.map V.str).all flatV = true := by
  rw [List.all_eq_true]
  intro v hv
  obtain ⟨y, _, rfl⟩ := List.mem_map.mp hv
  rfl
theorem d_inS {x : Str} {y : Rs} {xs : List Str} (hy : y.sq? = some (xs.map .str)) : R2D K od (rIn K false) (.da (.str x)) y (.da (.bool (decide (x ∈ xs)))) := by
  intro F B Ha H n v u g dm a b R k
  obtain ⟨p, vs, rfl, t, h⟩ := b.sq hy
  rw [Dk.str' a]
  have e := t.strs
  subst e
  refine ⟨p, _, rfl, ?_, rfl, all_flat_str xs, ?_⟩
  · exact h.elim (fun e => .inl (.of e)) (fun e => .inr e.1.sq)
  · rw [inV_str]
    exact k _ H (Same.refl _) (.bl _)
theorem d_ninS {x : Str} {y : Rs} {xs : List Str} (hy : y.sq? = some (xs.map .str)) : R2D K od (rIn K true) (.da (.str x)) y (.da (.bool (!decide (x ∈ xs)))) := by
  intro F B Ha H n v u g dm a b R k
  obtain ⟨p, vs, rfl, t, h⟩ := b.sq hy
  rw [Dk.str' a]
  have e := t.strs
  subst e
  refine ⟨p, _, rfl, ?_, rfl, all_flat_str xs, ?_⟩
  · exact h.elim (fun e => .inl (.of e)) (fun e => .inr e.1.sq)
  · rw [inV_str]
    exact k _ H (Same.refl _) (.bl _)
theorem d_neg {i : Int} : U1D K od (rU fun i => .int (-i)) (.da (.int i)) (.da (.int (-i))) := fun F B Ha H n v g dm a R k => ⟨i, Dk.int' a, k _ H (Same.refl _) (.int _)⟩
theorem RsAll.one {B : Addr → Prop} {Hb H : Hp} {vs : List V} {x : Rs} (h : RsAll K od F B Hb H vs [x]) : ∃ v, vs = [v] ∧ RsAt K od F B Hb H v x := by
  cases h with
  | cons h t ne =>
    cases t
    exact ⟨_, rfl, h⟩
theorem RsAll.two {B : Addr → Prop} {Hb H : Hp} {vs : List V} {x y : Rs} (h : RsAll K od F B Hb H vs [x, y]) : ∃ v u, vs = [v, u] ∧ RsAt K od F B Hb H v x ∧ RsAt K od F B Hb H u y := by
  cases h with
  | cons h t ne =>
    obtain ⟨u, rfl, hu⟩ := t.one
    exact ⟨_, u, rfl, h, hu⟩
theorem d_len {x : Rs} {ds : List PyData} (hx : x.sq? = some ds) : CBD K od (rLenQ K) [x] (.da (.int (ds.length : Nat))) := by
  intro F B Ha H n vs g dm a R k
  obtain ⟨v, rfl, a1⟩ := a.one
  obtain ⟨p, ys, rfl, t, h⟩ := a1.sq hx
  refine ⟨p, ys, rfl, h.elim (fun e => .inl (.of e)) (fun e => .inr e.1.sq), ?_⟩
  rw [t.len]
  exact k _ H (Same.refl _) (.int _)
theorem d_tuple {x : Rs} {ds : List PyData} (hx : x.sq? = some ds) : CBD K od (rTupOf K) [x] (.da (.tuple ds)) := by
  intro F B Ha H n vs g dm a R k
  obtain ⟨v, rfl, a1⟩ := a.one
  obtain ⟨p, ys, rfl, t, h⟩ := a1.sq hx
  refine ⟨p, ys, rfl, ?_⟩
  rcases h with e | ⟨e, rfl⟩
  · refine .inl ⟨.of e, fun l nl => ?_⟩
    obtain ⟨s, e'⟩ := nxo (o := .tup ys) nl
    exact k _ _ s (.tup (.inl e') (t.fk (Same.fk s)))
  · exact .inr ⟨e.sq, k _ H (Same.refl _) (.tup e t)⟩
theorem d_list {x : Rs} {ds : List PyData} (hx : x.sq? = some ds) : CBD K od (rListOf K) [x] (.fr ds) := by
  intro F B Ha H n vs g dm a R k
  obtain ⟨v, rfl, a1⟩ := a.one
  obtain ⟨p, ys, rfl, t, h⟩ := a1.sq hx
  refine ⟨p, ys, rfl, h.elim (fun e => .inl (.of e)) (fun e => .inr e.1.sq), fun l nl => ?_⟩
  obtain ⟨s, e'⟩ := nxo (o := .lst ys) nl
  exact k _ _ s ⟨l, rfl, ⟨ys, e', t.fk (Same.fk s)⟩, nl, fun z => dm l (.inl z) nl, fun z => dm l (.inr z) nl⟩
theorem d_sum {x : Rs} {ns : List Int} (hx : x.lst? = some (ns.map .int)) : CBD K od (rSum K) [x] (.da (.int ns.sum)) := by
  intro F B Ha H n vs g dm a R k
  obtain ⟨v, rfl, a1⟩ := a.one
  obtain ⟨p, rfl, ys, e, t⟩ := a1.ls hx
  have e2 := t.ints
  subst e2
  exact ⟨p, ns, rfl, .of e, k _ H (Same.refl _) (.int _)⟩
theorem d_all {x : Rs} {bs : List Bool} (hx : x.lst? = some (bs.map .bool)) : CBD K od (rAll K) [x] (.da (.bool (bs.all id))) := by
  intro F B Ha H n vs g dm a R k
  obtain ⟨v, rfl, a1⟩ := a.one
  obtain ⟨p, rfl, ys, e, t⟩ := a1.ls hx
  have e2 := t.bools
  subst e2
  exact ⟨p, bs, rfl, .of e, k _ H (Same.refl _) (.bl _)⟩
theorem d_any {x : Rs} {bs : List Bool} (hx : x.lst? = some (bs.map .bool)) : CBD K od (rAny K) [x] (.da (.bool (bs.any id))) := by
  intro F B Ha H n vs g dm a R k
  obtain ⟨v, rfl, a1⟩ := a.one
  obtain ⟨p, rfl, ys, e, t⟩ := a1.ls hx
  have e2 := t.bools
  subst e2
  exact ⟨p, bs, rfl, .of e, k _ H (Same.refl _) (.bl _)⟩
theorem d_min2 {i j : Int} : CBD K od rMin2 [.da (.int i), .da (.int j)] (.da (.int (if j < i then j else i))) := by
  intro F B Ha H n vs g dm a R k
  obtain ⟨v, u, rfl, a1, b1⟩ := a.two
  rw [Dk.int' a1, Dk.int' b1]
  exact ⟨i, j, rfl, k _ H (Same.refl _) (.int _)⟩
theorem d_max2 {i j : Int} : CBD K od rMax2 [.da (.int i), .da (.int j)] (.da (.int (if j > i then j else i))) := by
  intro F B Ha H n vs g dm a R k
  obtain ⟨v, u, rfl, a1, b1⟩ := a.two
  rw [Dk.int' a1, Dk.int' b1]
  exact ⟨i, j, rfl, k _ H (Same.refl _) (.int _)⟩
theorem d_repr {x : Rs} {d : PyData} {m j : Nat} (hx : x.pd = some d) (sm : Sm m j d) (hm : m ≤ 1048576) (hj : j ≤ 60) : CBD K od (rReprA K) [x] (.da (.str d.shown)) := by
  intro F B Ha H n vs g dm a R k
  obtain ⟨v, rfl, a1⟩ := a.one
  exact ⟨v, d, m, j, rfl, a1.dp hx, sm, hm, hj, k _ H (Same.refl _) (.str _)⟩
/-- xs[::-1] -/
theorem ev_revL {t : TE} {Γ : List Sl} {x : Rs} {ds : List PyData} (h : Ev K od t Γ x) (hx : x.lst? = some ds) : Ev K od (tRevL K t) Γ (.fr ds.reverse) := by
  intro n Q q F B σ H f g R k
  refine h n (fun r m => r = x ∧ m = n) ⟨rfl, rfl⟩ F B σ H f g _ fun v H1 x m F1 e o1 a1 => ?_
  obtain ⟨rfl, rfl⟩ := e
  obtain ⟨p, rfl, vs, e, t⟩ := a1.ls hx
  refine ⟨p, vs, rfl, .of e, fun l nl => ?_⟩
  obtain ⟨s, e'⟩ := nxo (o := .lst vs.reverse) nl
  exact k _ _ _ m F1 q (o1.same s) ⟨l, rfl, ⟨_, e', t.rev.fk (Same.fk s)⟩, o1.k.none o1.g nl, fun z => o1.f.domF l z nl, fun z => o1.f.dom l z nl⟩
end
end Pb

namespace Pb
open PySem PySem.Spec PyProof.Rows L2 TL
section
variable {K : PySem.W.Frag} {od : Md} {F B : Addr → Prop} {Γ : List Sl} {σ : L2.St} {H : Hp} {n : Nat}
/-! ### slots set -/
theorem Fits.set {i : Nat} {s : Sl} {v : Option V} (f : Fits K od F B Γ σ H) (hs : SlAt K od F B H v s)
    (h1 : ∀ a, v = some (.ref a) → (∃ ds, s = .own ds) → ∀ j, j ≠ i → LstS Γ j → σ[j]? ≠ some (some (.ref a)))
    (h2 : ∀ a, v = some (.ref a) → (∃ ds, s = .ro ds) → ∀ j, j ≠ i → OwnS Γ j → σ[j]? ≠ some (some (.ref a))) : Fits K od F B (Γ.set i s) (σ.set i v) H := by
  refine ⟨by rw [List.length_set, List.length_set, f.len], fun j t u ht hu => ?_, fun j k a hjk ho hl e => ?_, f.dom, f.domF, f.cel⟩
  · by_cases hj : i = j
    · subst hj
      by_cases hi : i < Γ.length
      · rw [List.getElem?_set_self hi] at ht
        rw [List.getElem?_set_self (by rw [← f.len]; exact hi)] at hu
        cases ht
        cases hu
        exact hs
      · rw [List.getElem?_eq_none (by rw [List.length_set]; omega)] at ht
        cases ht
    · rw [List.getElem?_set_ne hj] at ht hu
      exact f.at_ j t u ht hu
  · have own_out : ∀ j, i ≠ j → OwnS (Γ.set i s) j → OwnS Γ j := fun j hj h => by
      obtain ⟨ds, h⟩ := h
      rw [List.getElem?_set_ne hj] at h
      exact ⟨ds, h⟩
    have lst_out : ∀ j, i ≠ j → LstS (Γ.set i s) j → LstS Γ j := fun j hj h => by
      obtain ⟨ds, h⟩ := h
      rw [List.getElem?_set_ne hj] at h
      exact ⟨ds, h⟩
    by_cases hj : i = j
    · subst hj
      have hk : i ≠ k := hjk
      rw [List.getElem?_set_ne hk]
      obtain ⟨ds, h⟩ := ho
      have hi : i < Γ.length := by
        have := (List.getElem?_eq_some_iff.mp h).1
        rw [List.length_set] at this
        exact this
      rw [List.getElem?_set_self hi] at h
      rw [List.getElem?_set_self (by rw [← f.len]; exact hi)] at e
      exact h1 a (Option.some.inj e) ⟨ds, Option.some.inj h⟩ k (Ne.symm hk) (lst_out k hk hl)
    · rw [List.getElem?_set_ne hj] at e
      by_cases hk : i = k
      · subst hk
        intro e2
        obtain ⟨ds, h⟩ := hl
        have hi : i < Γ.length := by
          rcases h with h | h
          · have := (List.getElem?_eq_some_iff.mp h).1
            rw [List.length_set] at this
            exact this
          · have := (List.getElem?_eq_some_iff.mp h).1
            rw [List.length_set] at this
            exact this
        rw [List.getElem?_set_self hi] at h
        rw [List.getElem?_set_self (by rw [← f.len]; exact hi)] at e2
        have ho' := own_out j hj ho
        rcases h with h | h
        · exact h1 a (Option.some.inj e2) ⟨ds, Option.some.inj h⟩ j (Ne.symm hj) (ho'.elim fun ds h => ⟨ds, .inl h⟩) e
        · exact h2 a (Option.some.inj e2) ⟨ds, Option.some.inj h⟩ j (Ne.symm hj) ho' e
      · rw [List.getElem?_set_ne hk]
        exact f.sep j k a hjk (own_out j hj ho) (lst_out k hk hl) e
theorem Fits.setD {i : Nat} {v : V} {d : PyData} (f : Fits K od F B Γ σ H) (h : Dk K F H v d) : Fits K od F B (Γ.set i (.da d)) (σ.set i (some v)) H := f.set ⟨v, rfl, h⟩ (fun _ _ z => by obtain ⟨_, z⟩ := z; cases z) (fun _ _ z => by obtain ⟨_, z⟩ := z; cases z)
theorem Fits.setN {i : Nat} {v : Option V} (f : Fits K od F B Γ σ H) : Fits K od F B (Γ.set i .no) (σ.set i v) H := f.set trivial (fun _ _ z => by obtain ⟨_, z⟩ := z; cases z) (fun _ _ z => by obtain ⟨_, z⟩ := z; cases z)
def wipeS (Γ : List Sl) : List Nat → List Sl
  | [] => Γ
  | v :: vs => (wipeS Γ vs).set v .no
theorem Fits.wipe (f : Fits K od F B Γ σ H) : ∀ vs : List Nat, Fits K od F B (wipeS Γ vs) (L2.wipe σ vs) H
  | [] => f
  | v :: vs => (Fits.wipe f vs).setN
theorem set_wipe (σ : L2.St) (i : Nat) (v : Option V) : ∀ ws : List Nat, (L2.wipe (σ.set i v) ws).set i none = (L2.wipe σ ws).set i none
  | [] => by
    show (σ.set i v).set i none = σ.set i none
    rw [List.set_set]
  | w :: ws => by
    show ((L2.wipe (σ.set i v) ws).set w none).set i none = ((L2.wipe σ ws).set w none).set i none
    by_cases h : i = w
    · subst h
      rw [set_wipe σ i v ws]
    · rw [List.set_comm _ _ (Ne.symm h), set_wipe σ i v ws, List.set_comm _ _ h]
theorem wipe_set {i : Nat} {v : Option V} : ∀ {own : List Nat}, i ∈ own → L2.wipe (σ.set i v) own = L2.wipe σ own
  | w :: ws, h => by
    show (L2.wipe (σ.set i v) ws).set w none = (L2.wipe σ ws).set w none
    by_cases hw : i = w
    · subst hw
      exact set_wipe σ i v ws
    · rw [wipe_set (own := ws) ((List.mem_cons.mp h).resolve_left hw)]
/-! ### targets -/
end
section
variable (K : PySem.W.Frag) (od : Md)
def wTg (g : TG) (own : List Nat) (d : PyData) (Γ : List Sl) (N : List Sl → Prop) : Prop :=
  ∀ (F B : Addr → Prop) (v : V) (σ : L2.St) (H : Hp), Fits K od F B Γ σ H → Dk K F H v d → ∀ k : L2.St → Hp → Prop, (∀ σ' Γ', N Γ' → Fits K od F B Γ' σ' H → L2.wipe σ' own = L2.wipe σ own → k σ' H) → g v σ H k
def wTgs (g : TGs) (own : List Nat) (ds : List PyData) (Γ : List Sl) (N : List Sl → Prop) : Prop :=
  ∀ (F B : Addr → Prop) (vs : List V) (σ : L2.St) (H : Hp), Fits K od F B Γ σ H → DkAll K F H vs ds → ∀ k : L2.St → Hp → Prop, (∀ σ' Γ', N Γ' → Fits K od F B Γ' σ' H → L2.wipe σ' own = L2.wipe σ own → k σ' H) → g vs σ H k
/-- a walk over data -/
def WalkD (F B : Addr → Prop) (H0 : Hp) (J : It) (ds : List PyData) : Prop := ∃ (G : Hp → Prop) (Y : Nat → Hp → V → Hp → Prop), Walk J ds.length G Y ∧ (∀ H1, Pr od F B H0 H1 → G H1) ∧ ∀ i d H1 x H2, ds[i]? = some d → Pr od F B H0 H1 → Y i H1 x H2 → Same H1 H2 ∧ Dk K F H2 x d
/-- what a comprehension walks over -/
def wI (wi : TI) (Γ : List Sl) (n : Nat) (Q : List PyData → Nat → Prop) : Prop :=
  ∀ (F B : Addr → Prop) (σ : L2.St) (H : Hp), Fits K od F B Γ σ H → Gd od n H → ∀ R : It → Hp → Prop, (∀ J H' ds n' F', Q ds n' → Go K od F B Γ σ H F' H' n' → WalkD K od F' (fun _ => True) H' J ds → R J H') → wi σ H R
/-- what a for walks over -/
def wF (wi : TI) (Γ : List Sl) (n : Nat) (Q : List PyData → List Sl → Nat → Prop) : Prop :=
  ∀ (F B : Addr → Prop) (σ : L2.St) (H : Hp), Fits K od F B Γ σ H → Gd od n H → ∀ R : It → Hp → Prop, (∀ J H' ds Γ' n' (F' B' : Addr → Prop), Q ds Γ' n' → ((∀ b, F b → F' b) ∧ ∀ b, F' b → F b ∨ ¬ B b) → Kx od H H' → Gd od n' H' → (∀ b, B b → B' b) → Fits K od F' B' Γ' σ H' → WalkD K od F' B' H' J ds → R J H') → wi σ H R
def EvI (wi : TI) (Γ : List Sl) (ds : List PyData) : Prop := ∀ n Q, Q ds n → wI K od wi Γ n Q
def EvF (wi : TI) (Γ : List Sl) (ds : List PyData) (Γ' : List Sl) : Prop := ∀ n Q, Q ds Γ' n → wF K od wi Γ n Q
end
section
variable {K : PySem.W.Frag} {od : Md} {F B : Addr → Prop} {Γ : List Sl} {σ : L2.St} {H : Hp} {n : Nat}
theorem g_name {i : Nat} {own : List Nat} {d : PyData} {N : List Sl → Prop} (hi : i ∈ own) (q : N (Γ.set i (.da d))) : wTg K od (gName i) own d Γ N := fun F B v σ H f h k c => c _ _ q (f.setD h) (wipe_set hi)
theorem g_nil {own : List Nat} {N : List Sl → Prop} (q : N Γ) : wTgs K od gNil own [] Γ N := fun F B v σ H f h k c => by
  cases h
  exact ⟨rfl, c _ _ q f rfl⟩
theorem g_cons {g : TG} {gs : TGs} {own : List Nat} {d : PyData} {ds : List PyData} {N : List Sl → Prop} (h : wTg K od g own d Γ fun Γ' => wTgs K od gs own ds Γ' N) : wTgs K od (gCons g gs) own (d :: ds) Γ N := by
  intro F B v σ H f hd k c
  cases hd with
  | cons a t => exact ⟨_, _, rfl, h F B _ σ H f a _ fun σ' Γ' hn f' w => hn F B _ σ' H f' t _ fun σ2 Γ2 hn2 f2 w2 => c _ _ hn2 f2 (w2.trans w)⟩
theorem g_tup {m : Nat} {gs : TGs} {own : List Nat} {ds : List PyData} {N : List Sl → Prop} (hm : ds.length = m) (h : wTgs K od gs own ds Γ N) : wTg K od (gTup K m gs) own (.tuple ds) Γ N := by
  intro F B v σ H f hd k c
  obtain ⟨a, vs, rfl, e, t⟩ := hd.tup'
  exact ⟨a, vs, rfl, e.sq, by rw [t.len]; exact hm, h F B vs σ H f t k c⟩
theorem g_mono {g : TG} {own : List Nat} {d : PyData} {N N' : List Sl → Prop} (h : wTg K od g own d Γ N) (q : ∀ Γ', N Γ' → N' Γ') : wTg K od g own d Γ N' := fun F B v σ H f hd k c => h F B v σ H f hd k fun σ' Γ' hn => c σ' Γ' (q Γ' hn)
/-! ### walks -/
theorem WalkD.mono {B B' : Addr → Prop} {J : It} {ds : List PyData} (w : WalkD K od F B H J ds) (h : ∀ b, B b → B' b) : WalkD K od F B' H J ds := by
  obtain ⟨G, Y, W, hG, hY⟩ := w
  exact ⟨G, Y, W, fun H1 p => hG H1 (p.mono (fun _ z => z) h), fun i d H1 x H2 e p y => hY i d H1 x H2 e (p.mono (fun _ z => z) h) y⟩
theorem walkD_tup {a : Addr} {vs : List V} {ds : List PyData} (e : TupIn K H a vs) (t : DkAll K F H vs ds) : WalkD K od F (fun _ => False) H (Itt K a) ds := by
  have w : Walk (Itt K a) ds.length (fun H => SqT K H a vs) (YAt vs) := by rw [← t.len]; exact walk_tup (K := K) (a := a) (xs := vs)
  refine ⟨_, _, w, fun H1 p => (e.tk p.1.1).sq, fun i d H1 x H2 ed p y => ?_⟩
  obtain ⟨rfl, gx⟩ := y
  obtain ⟨v, gv, dv⟩ := t.get i d ed
  rw [gv] at gx
  cases gx
  exact ⟨Same.refl _, dv.fk p.1⟩
theorem Pr.lstAt {H' : Hp} {a : Addr} {vs : List V} (p : Pr od F B H H') (g : Gd od n H) (hb : B a) (e : H a = some (.lst vs)) : H' a = some (.lst vs) := p.2 a _ hb (fun q hq z => by
  subst hq
  obtain ⟨x, l, u, cs, e1, _⟩ := g
  rw [z, e1] at e
  cases e) e
theorem walkD_lst {a : Addr} {vs : List V} {ds : List PyData} (g : Gd od n H) (hb : B a) (e : H a = some (.lst vs)) (t : DkAll K F H vs ds) : WalkD K od F B H (Itl K a) ds := by
  have w : Walk (Itl K a) ds.length (fun H => SqL K H a vs) (YAt vs) := by rw [← t.len]; exact walk_list (K := K) (a := a) (xs := vs)
  refine ⟨_, _, w, fun H1 p => .of (p.lstAt g hb e), fun i d H1 x H2 ed p y => ?_⟩
  obtain ⟨rfl, gx⟩ := y
  obtain ⟨v, gv, dv⟩ := t.get i d ed
  rw [gv] at gx
  cases gx
  exact ⟨Same.refl _, dv.fk p.1⟩
def rngD (lo : Int) (m : Nat) : List PyData := (List.range m).map fun k => .int (lo + (k : Nat))
def rngC (lo c : Int) (m : Nat) : List PyData := (List.range m).map fun k => .int (lo + (k : Nat) * c)
theorem rngD_len (lo : Int) (m : Nat) : (rngD lo m).length = m := by
  unfold rngD
  rw [List.length_map, List.length_range]
theorem rngC_len (lo c : Int) (m : Nat) : (rngC lo c m).length = m := by
  unfold rngC
  rw [List.length_map, List.length_range]
theorem walkD_rng {lo : Int} {m : Nat} : WalkD K od F B H (Itr lo m) (rngD lo m) := by
  have w : Walk (Itr lo m) (rngD lo m).length (fun _ => True) (YFn fun i => .int (lo + i)) := by rw [rngD_len]; exact walk_range (lo := lo) (n := m)
  refine ⟨_, _, w, fun _ _ => trivial, fun i d H1 x H2 ed p y => ?_⟩
  obtain ⟨rfl, rfl⟩ := y
  unfold rngD at ed
  rw [List.getElem?_map] at ed
  obtain ⟨k, hk, rfl⟩ := Option.map_eq_some_iff.mp ed
  have : k = i := by
    have h := (List.getElem?_eq_some_iff.mp hk)
    obtain ⟨h1, h2⟩ := h
    rw [List.getElem_range] at h2
    exact h2.symm
  subst this
  exact ⟨Same.refl _, .int _⟩
theorem walkD_rngC {lo c : Int} {m : Nat} : WalkD K od F B H (Itc lo c m) (rngC lo c m) := by
  have w : Walk (Itc lo c m) (rngC lo c m).length (fun _ => True) (YFn fun i => .int (lo + (i : Nat) * c)) := by rw [rngC_len]; exact walk_rangeC (lo := lo) (c := c) (n := m)
  refine ⟨_, _, w, fun _ _ => trivial, fun i d H1 x H2 ed p y => ?_⟩
  obtain ⟨rfl, rfl⟩ := y
  unfold rngC at ed
  rw [List.getElem?_map] at ed
  obtain ⟨k, hk, rfl⟩ := Option.map_eq_some_iff.mp ed
  have : k = i := by
    have h := (List.getElem?_eq_some_iff.mp hk)
    obtain ⟨h1, h2⟩ := h
    rw [List.getElem_range] at h2
    exact h2.symm
  subst this
  exact ⟨Same.refl _, .int _⟩
def strD (z : Str) : List PyData := z.cps.toList.map fun c => .str ⟨#[c]⟩
theorem walkD_str {z : Str} : WalkD K od F B H (Its z) (strD z) := by
  have w : Walk (Its z) (strD z).length (fun _ => True) (fun i H v H' => H' = H ∧ ∃ c, z.cps[i]? = some c ∧ v = .str ⟨#[c]⟩) := by
    have : (strD z).length = z.cps.size := by
      unfold strD
      rw [List.length_map]
      exact Array.length_toList
    rw [this]
    exact walk_str (z := z)
  refine ⟨_, _, w, fun _ _ => trivial, fun i d H1 x H2 ed p y => ?_⟩
  obtain ⟨rfl, c, gc, rfl⟩ := y
  unfold strD at ed
  rw [List.getElem?_map, Array.getElem?_toList, gc] at ed
  cases ed
  exact ⟨Same.refl _, .str _⟩
def zipD (ds es : List PyData) : List PyData := (ds.zip es).map fun p => .tuple [p.1, p.2]
def enumD (ds : List PyData) : List PyData := zipD (rngD 0 ds.length) ds
theorem zipD_len (ds es : List PyData) : (zipD ds es).length = min ds.length es.length := by
  unfold zipD
  rw [List.length_map, List.length_zip]
theorem walk_zipT' {a b : Addr} {xs ys : List V} {m : Nat} (hn : m = min xs.length ys.length) : Walk (RZ.ItzT K a b) m (fun H => SqT K H a xs ∧ SqT K H b ys) (YPair (fun i => xs[i]?) (fun i => ys[i]?)) := by
  subst hn
  refine ⟨fun i _ hi q => ?_, fun _ q => ⟨xs, ys, q.1, q.2, by omega⟩, fun i H v H' _ q y => ?_⟩
  · have h1 : i < xs.length := by omega
    have h2 : i < ys.length := by omega
    exact ⟨xs, ys, xs[i], ys[i], q.1, q.2, by simp [h1], by simp [h2]⟩
  · obtain ⟨T, x, z, h1, h2, h3, h4, h5⟩ := y
    exact ⟨T, x, z, h1, h2, h3, h4 xs q.1, h5 ys q.2⟩
theorem pairD {H1 H2 : Hp} {x : V} {fx fy : Nat → Option V} {i : Nat} {d e : PyData} (y : YPair fx fy i H1 x H2) (h1 : ∀ u, fx i = some u → Dk K F H1 u d) (h2 : ∀ u, fy i = some u → Dk K F H1 u e) : Same H1 H2 ∧ Dk K F H2 x (.tuple [d, e]) := by
  obtain ⟨T, u, v, rfl, nT, rfl, g1, g2⟩ := y
  obtain ⟨s, eT⟩ := nxo (o := .tup [u, v]) nT
  exact ⟨s, .tup (.inl eT) (.cons ((h1 u g1).fk (Same.fk s)) (.cons ((h2 v g2).fk (Same.fk s)) .nil))⟩
theorem DkAll.getV {vs : List V} {ds : List PyData} (t : DkAll K F H vs ds) {i : Nat} {u : V} {d : PyData} (h : vs[i]? = some u) (hd : ds[i]? = some d) : Dk K F H u d := by
  obtain ⟨v, gv, dv⟩ := t.get i d hd
  rw [gv] at h
  cases h
  exact dv
theorem zipD_get {ds es : List PyData} {i : Nat} {p : PyData} (h : (zipD ds es)[i]? = some p) : ∃ d e, ds[i]? = some d ∧ es[i]? = some e ∧ p = .tuple [d, e] := by
  unfold zipD at h
  rw [List.getElem?_map] at h
  obtain ⟨q, hq, rfl⟩ := Option.map_eq_some_iff.mp h
  rw [List.getElem?_zip_eq_some] at hq
  exact ⟨q.1, q.2, hq.1, hq.2, rfl⟩
theorem walkD_zipT {a b : Addr} {vs us : List V} {ds es : List PyData} (e1 : TupIn K H a vs) (t1 : DkAll K F H vs ds) (e2 : TupIn K H b us) (t2 : DkAll K F H us es) : WalkD K od F (fun _ => False) H (RZ.ItzT K a b) (zipD ds es) := by
  have w : Walk (RZ.ItzT K a b) (zipD ds es).length (fun H => SqT K H a vs ∧ SqT K H b us) (YPair (fun i => vs[i]?) (fun i => us[i]?)) := by rw [zipD_len]; exact walk_zipT' (K := K) (a := a) (b := b) (xs := vs) (ys := us) (by rw [t1.len, t2.len])
  refine ⟨_, _, w, fun H1 p => ⟨(e1.tk p.1.1).sq, (e2.tk p.1.1).sq⟩, fun i d H1 x H2 ed p y => ?_⟩
  obtain ⟨d, e, g1, g2, rfl⟩ := zipD_get ed
  exact pairD y (fun u hu => (t1.fk p.1).getV hu g1) (fun u hu => (t2.fk p.1).getV hu g2)
theorem walkD_zipL {a b : Addr} {vs us : List V} {ds es : List PyData} (g : Gd od n H) (ha : B a) (hb : B b) (e1 : H a = some (.lst vs)) (t1 : DkAll K F H vs ds) (e2 : H b = some (.lst us)) (t2 : DkAll K F H us es) : WalkD K od F B H (Itz K a b) (zipD ds es) := by
  have w : Walk (Itz K a b) (zipD ds es).length (fun H => SqL K H a vs ∧ SqL K H b us) (YPair (fun i => vs[i]?) (fun i => us[i]?)) := by rw [zipD_len]; exact walk_zip (K := K) (a := a) (b := b) (xs := vs) (ys := us) (by rw [t1.len, t2.len])
  refine ⟨_, _, w, fun H1 p => ⟨.of (p.lstAt g ha e1), .of (p.lstAt g hb e2)⟩, fun i d H1 x H2 ed p y => ?_⟩
  obtain ⟨d, e, g1, g2, rfl⟩ := zipD_get ed
  exact pairD y (fun u hu => (t1.fk p.1).getV hu g1) (fun u hu => (t2.fk p.1).getV hu g2)
theorem rngD_get {m i : Nat} {d : PyData} (h : (rngD 0 m)[i]? = some d) : d = .int (i : Nat) := by
  unfold rngD at h
  rw [List.getElem?_map] at h
  obtain ⟨k, hk, rfl⟩ := Option.map_eq_some_iff.mp h
  obtain ⟨h1, h2⟩ := (List.getElem?_eq_some_iff.mp hk)
  rw [List.getElem_range] at h2
  subst h2
  rw [Int.zero_add]
theorem walkD_enT {a : Addr} {vs : List V} {ds : List PyData} (e1 : TupIn K H a vs) (t1 : DkAll K F H vs ds) : WalkD K od F (fun _ => False) H (IteT K a) (enumD ds) := by
  have w : Walk (IteT K a) (enumD ds).length (fun H => SqT K H a vs) (YPair (fun i => some (.int (i : Nat))) (fun i => vs[i]?)) := by
    have : (enumD ds).length = vs.length := by
      unfold enumD
      rw [zipD_len, rngD_len, Nat.min_self, t1.len]
    rw [this]
    exact walk_enT (K := K) (a := a) (xs := vs)
  refine ⟨_, _, w, fun H1 p => (e1.tk p.1.1).sq, fun i d H1 x H2 ed p y => ?_⟩
  obtain ⟨d, e, g1, g2, rfl⟩ := zipD_get ed
  have := rngD_get g1
  subst this
  exact pairD y (fun u hu => by cases hu; exact .int _) (fun u hu => (t1.fk p.1).getV hu g2)
theorem walkD_enL {a : Addr} {vs : List V} {ds : List PyData} (g : Gd od n H) (ha : B a) (e1 : H a = some (.lst vs)) (t1 : DkAll K F H vs ds) : WalkD K od F B H (Ite K a) (enumD ds) := by
  have w : Walk (Ite K a) (enumD ds).length (fun H => SqL K H a vs) (YPair (fun i => some (.int (i : Nat))) (fun i => vs[i]?)) := by
    have : (enumD ds).length = vs.length := by
      unfold enumD
      rw [zipD_len, rngD_len, Nat.min_self, t1.len]
    rw [this]
    exact walk_enum (K := K) (a := a) (xs := vs)
  refine ⟨_, _, w, fun H1 p => .of (p.lstAt g ha e1), fun i d H1 x H2 ed p y => ?_⟩
  obtain ⟨d, e, g1, g2, rfl⟩ := zipD_get ed
  have := rngD_get g1
  subst this
  exact pairD y (fun u hu => by cases hu; exact .int _) (fun u hu => (t1.fk p.1).getV hu g2)
/-! what a comprehension walks over -/
theorem i_tup {t : TE} {ds : List PyData} (h : Ev K od t Γ (.da (.tuple ds))) : EvI K od (iTup K t) Γ ds := by
  intro n Q q F B σ H f g R k
  refine h n (fun r m => r = .da (.tuple ds) ∧ m = n) ⟨rfl, rfl⟩ F B σ H f g _ fun v H1 x m F1 e o1 a1 => ?_
  obtain ⟨rfl, rfl⟩ := e
  obtain ⟨a, vs, rfl, e, t⟩ := Dk.tup' a1
  exact ⟨a, rfl, ⟨_, e.sq⟩, k _ H1 ds m F1 q o1 ((walkD_tup e t).mono fun _ z => z.elim)⟩
theorem i_lst {t : TE} {x : Rs} {ds : List PyData} (h : Ev K od t Γ x) (hx : x.lst? = some ds) : EvI K od (iList K t) Γ ds := by
  intro n Q q F B σ H f g R k
  refine h n (fun r m => r = x ∧ m = n) ⟨rfl, rfl⟩ F B σ H f g _ fun v H1 x m F1 e o1 a1 => ?_
  obtain ⟨rfl, rfl⟩ := e
  obtain ⟨a, rfl, vs, e, t⟩ := a1.ls hx
  exact ⟨a, rfl, ⟨_, .of e⟩, k _ H1 ds m F1 q o1 (walkD_lst o1.g trivial e t)⟩
theorem i_rng1 {t : TA} {j : Int} (h : EvA K od t Γ [.da (.int j)]) (hj : -(2 ^ 62) ≤ j ∧ j < 2 ^ 62) : EvI K od (iRng1 t) Γ (rngD 0 j.toNat) := by
  intro n Q q F B σ H f g R k
  refine h n (fun r m => r = [.da (.int j)] ∧ m = n) ⟨rfl, rfl⟩ F B σ H f g _ fun v H1 x m F1 e o1 a1 => ?_
  obtain ⟨rfl, rfl⟩ := e
  obtain ⟨u, rfl, a2⟩ := a1.one
  rw [Dk.int' a2]
  exact ⟨j, rfl, hj.1, hj.2, k _ H1 _ m F1 q o1 walkD_rng⟩
theorem i_rng2 {t : TA} {i j : Int} (h : EvA K od t Γ [.da (.int i), .da (.int j)]) (hj : -(2 ^ 62) ≤ i ∧ i < 2 ^ 62 ∧ -(2 ^ 62) ≤ j ∧ j < 2 ^ 62) : EvI K od (iRng2 t) Γ (rngD i (j - i).toNat) := by
  intro n Q q F B σ H f g R k
  refine h n (fun r m => r = [.da (.int i), .da (.int j)] ∧ m = n) ⟨rfl, rfl⟩ F B σ H f g _ fun v H1 x m F1 e o1 a1 => ?_
  obtain ⟨rfl, rfl⟩ := e
  obtain ⟨u, w, rfl, a2, a3⟩ := a1.two
  rw [Dk.int' a2, Dk.int' a3]
  exact ⟨i, j, rfl, hj, k _ H1 _ m F1 q o1 walkD_rng⟩
theorem i_rngN {t : TA} {i j : Int} (h : EvA K od t Γ [.da (.int i), .da (.int j), .da (.int (-1))]) (hj : -(2 ^ 62) ≤ i ∧ i < 2 ^ 62 ∧ -(2 ^ 62) ≤ j ∧ j < 2 ^ 62) : EvI K od (iRng3 t) Γ (rngC i (-1) (i - j).toNat) := by
  intro n Q q F B σ H f g R k
  refine h n (fun r m => r = [.da (.int i), .da (.int j), .da (.int (-1))] ∧ m = n) ⟨rfl, rfl⟩ F B σ H f g _ fun v H1 x m F1 e o1 a1 => ?_
  obtain ⟨rfl, rfl⟩ := e
  cases a1 with
  | cons a2 a1 _ =>
    obtain ⟨u, w, rfl, a3, a4⟩ := a1.two
    rw [Dk.int' a2, Dk.int' a3, Dk.int' a4]
    exact ⟨i, j, -1, _, rfl, RgC.neg hj.1 hj.2.1 hj.2.2.1 hj.2.2.2, k _ H1 _ m F1 q o1 walkD_rngC⟩
theorem i_str {t : TE} {z : Str} (h : Ev K od t Γ (.da (.str z))) : EvI K od (iStr t) Γ (strD z) := by
  intro n Q q F B σ H f g R k
  refine h n (fun r m => r = .da (.str z) ∧ m = n) ⟨rfl, rfl⟩ F B σ H f g _ fun v H1 x m F1 e o1 a1 => ?_
  obtain ⟨rfl, rfl⟩ := e
  exact ⟨z, Dk.str' a1, k _ H1 _ m F1 q o1 walkD_str⟩
theorem i_zipT {t : TA} {ds es : List PyData} (h : EvA K od t Γ [.da (.tuple ds), .da (.tuple es)]) : EvI K od (RZ.iZipA K t) Γ (zipD ds es) := by
  intro n Q q F B σ H f g R k
  refine h n (fun r m => r = [.da (.tuple ds), .da (.tuple es)] ∧ m = n) ⟨rfl, rfl⟩ F B σ H f g _ fun v H1 x m F1 e o1 a1 => ?_
  obtain ⟨rfl, rfl⟩ := e
  obtain ⟨u, w, rfl, a2, a3⟩ := a1.two
  obtain ⟨a, vs, rfl, e1, t1⟩ := Dk.tup' a2
  obtain ⟨b, us, rfl, e2, t2⟩ := Dk.tup' a3
  exact ⟨a, b, vs, us, rfl, .inr ⟨e1.sq, e2.sq, k _ H1 _ m F1 q o1 ((walkD_zipT e1 t1 e2 t2).mono fun _ z => z.elim)⟩⟩
theorem i_zipL {t : TA} {x y : Rs} {ds es : List PyData} (h : EvA K od t Γ [x, y]) (hx : x.lst? = some ds) (hy : y.lst? = some es) : EvI K od (RZ.iZipA K t) Γ (zipD ds es) := by
  intro n Q q F B σ H f g R k
  refine h n (fun r m => r = [x, y] ∧ m = n) ⟨rfl, rfl⟩ F B σ H f g _ fun v H1 x m F1 e o1 a1 => ?_
  obtain ⟨rfl, rfl⟩ := e
  obtain ⟨u, w, rfl, a2, a3⟩ := a1.two
  obtain ⟨a, rfl, vs, e1, t1⟩ := a2.ls hx
  obtain ⟨b, rfl, us, e2, t2⟩ := a3.ls hy
  exact ⟨a, b, vs, us, rfl, .inl ⟨.of e1, .of e2, k _ H1 _ m F1 q o1 (walkD_zipL o1.g trivial trivial e1 t1 e2 t2)⟩⟩
theorem i_enT {t : TA} {ds : List PyData} (h : EvA K od t Γ [.da (.tuple ds)]) : EvI K od (iEnumT K t) Γ (enumD ds) := by
  intro n Q q F B σ H f g R k
  refine h n (fun r m => r = [.da (.tuple ds)] ∧ m = n) ⟨rfl, rfl⟩ F B σ H f g _ fun v H1 x m F1 e o1 a1 => ?_
  obtain ⟨rfl, rfl⟩ := e
  obtain ⟨u, rfl, a2⟩ := a1.one
  obtain ⟨a, vs, rfl, e1, t1⟩ := Dk.tup' a2
  exact ⟨a, vs, rfl, e1.sq, k _ H1 _ m F1 q o1 ((walkD_enT e1 t1).mono fun _ z => z.elim)⟩
theorem i_enL {t : TA} {x : Rs} {ds : List PyData} (h : EvA K od t Γ [x]) (hx : x.lst? = some ds) : EvI K od (iEnum K t) Γ (enumD ds) := by
  intro n Q q F B σ H f g R k
  refine h n (fun r m => r = [x] ∧ m = n) ⟨rfl, rfl⟩ F B σ H f g _ fun v H1 x m F1 e o1 a1 => ?_
  obtain ⟨rfl, rfl⟩ := e
  obtain ⟨u, rfl, a2⟩ := a1.one
  obtain ⟨a, rfl, vs, e1, t1⟩ := a2.ls hx
  exact ⟨a, vs, rfl, .of e1, k _ H1 _ m F1 q o1 (walkD_enL o1.g trivial e1 t1)⟩
theorem wipe_wipe (own : List Nat) : L2.wipe (L2.wipe σ own) own = L2.wipe σ own := by
  have : ∀ ws : List Nat, ∀ vs : List Nat, (∀ x ∈ ws, x ∈ vs) → L2.wipe (L2.wipe σ vs) ws = L2.wipe σ vs := by
    intro ws
    induction ws with
    | nil => intro vs _; rfl
    | cons w ws ih =>
      intro vs hm
      show (L2.wipe (L2.wipe σ vs) ws).set w none = L2.wipe σ vs
      rw [ih vs fun x hx => hm x (List.mem_cons_of_mem _ hx)]
      have hw := hm w List.mem_cons_self
      apply List.ext_getElem?
      intro j
      by_cases hj : w = j
      · subst hj
        by_cases hlt : w < (L2.wipe σ vs).length
        · rw [List.getElem?_set_self hlt]
          cases e : (L2.wipe σ vs)[w]? with
          | none => rw [List.getElem?_eq_none_iff] at e; omega
          | some o =>
            cases o with
            | none => rfl
            | some v => exact absurd hw (wipe_some e).2
        · rw [List.getElem?_eq_none (by rw [List.length_set]; omega), List.getElem?_eq_none (by omega)]
      · rw [List.getElem?_set_ne hj]
  exact this own own fun _ h => h
/-! a comprehension -/
theorem Gd.updF {m : Nat} {D : Addr} {o : HO} (g : Gd od m H) (dne : ∀ p, od = some p → D ≠ p.1 ∧ D ≠ p.2) : Gd od m (upd H D o) := by
  cases od with
  | none => trivial
  | some p => exact DrC.upd g (Ne.symm (dne p rfl).1) (Ne.symm (dne p rfl).2)
theorem Kx.updF {H1 : Hp} {D : Addr} {o : HO} (k : Kx od H1 H) (nD : H1 D = Option.none) : Kx od H1 (upd H D o) := by
  cases od with
  | none => exact same_mut k nD
  | some p =>
    intro b o' hb e
    rw [upd_ne (ne_none e nD)]
    exact k b o' hb e
theorem w_lc {wi : TI} {g : TG} {tt : TT} {te : TE} {own : List Nat} {Q : Rs → Nat → Prop} (h : wI K od wi Γ n fun ds n1 => ds.length ≤ 20000 ∧ ∃ I : Nat → List PyData → Nat → Prop, I 0 [] n1 ∧ (∀ i acc m, I i acc m → acc.length ≤ i) ∧
      (∀ i d acc m, ds[i]? = some d → I i acc m → wTg K od g own d (wipeS Γ own) fun Γ2 => wT K od tt Γ2 m fun b m2 => if b = true then wE K od te Γ2 m2 fun r m3 => ∃ e, r.em = some e ∧ I (i + 1) (acc ++ [e]) m3 else I (i + 1) acc m2) ∧
      ∀ acc m, I ds.length acc m → Q (.fr acc) m) : wE K od (tLc wi g tt te own) Γ n Q := by
  intro F B σ H f gd R k
  refine h F B σ H f gd _ fun J H1 ds n1 F1 hq o1 W D nD => ?_
  obtain ⟨hl, I, h0, hle, step, fin⟩ := hq
  obtain ⟨G, Y, w, hG, hY⟩ := W
  have g1 := o1.g
  have dne : ∀ p, od = some p → D ≠ p.1 ∧ D ≠ p.2 := fun p hp => by
    subst hp
    obtain ⟨x, l, u, cs, e1, e2, _⟩ := g1
    refine ⟨fun z => ?_, fun z => ?_⟩
    · rw [z, e1] at nD
      cases nD
    · rw [z, e2] at nD
      cases nD
  have gup : ∀ {m : Nat} {H' : Hp} {o : HO}, Gd od m H' → Gd od m (upd H' D o) := fun g => g.updF dne
  have kup : ∀ {H' : Hp} {o : HO}, Kx od H1 H' → Kx od H1 (upd H' D o) := fun k => k.updF nD
  have nF1 : ¬ F1 D := fun z => o1.f.domF D z nD
  have dup : ∀ {Fa : Addr → Prop} {H' : Hp} {o : HO}, (∀ b, Fa b → H' b ≠ none) → ∀ b, Fa b → upd H' D o b ≠ none := fun {Fa H' o} hd b hb => by
    by_cases e : b = D
    · rw [e, upd_same]
      intro z
      cases z
    · rw [upd_ne e]
      exact hd b hb
  refine lc_it w (fun i H' => ∃ acc m F', I i acc m ∧ Gr F1 H1 F' ∧ (∀ b, F' b → H' b ≠ none) ∧ ¬ F' D ∧ Kx od H1 H' ∧ Gd od m H' ∧ LK K F' H' D acc) ⟨[], n1, F1, h0, Gr.refl _ _, dup o1.f.domF, nF1, kup (Kx.refl _ _), gup g1, [], upd_same, .nil⟩ (fun i H' _ z => ?_) (fun i x Ha Hb hi z y => ?_) fun H' z => ?_
  · obtain ⟨acc, m, F', _, _, _, _, ka, _⟩ := z
    exact hG H' (ka.pr g1)
  · obtain ⟨acc, m, F', hI, gr, dF, nD', ka, ga, vs, eD, t⟩ := z
    have lt : i < ds.length := hi
    obtain ⟨s1, dx⟩ := hY i _ Ha x Hb (List.getElem?_eq_getElem lt) (ka.pr g1) y
    have gb := ga.same s1
    have kb := ka.trans (Same.kx s1)
    have dFb : ∀ b, F' b → Hb b ≠ none := fun b hb => (Same.kx (od := od) s1).some gb (dF b hb)
    have fb : Fits K od F' B Γ σ Hb := o1.f.kg kb g1 gb gr dFb
    refine step i _ acc m (List.getElem?_eq_getElem lt) hI F' B x (L2.wipe σ own) Hb (fb.wipe own) (dx.mono gr.1) _ fun σ2 Γ2 hw f2 w2 => ⟨by rw [w2]; exact wipe_wipe own, ?_⟩
    refine hw F' B σ2 Hb f2 gb _ fun b Hc m2 F2 hb2 o2 => ?_
    have eDb : Hb D ≠ none := (Same.kx (od := od) s1).some gb (by rw [eD]; intro z; cases z)
    have grc : Gr F1 H1 F2 := gr.trans o2.gr kb gb
    have nD2 : ¬ F2 D := o2.gr.out nD' eDb
    have kc : Kx od Ha Hc := (Same.kx s1).trans o2.k
    cases b with
    | true =>
      have hb3 : wE K od te Γ2 m2 fun r m3 => ∃ e, r.em = some e ∧ I (i + 1) (acc ++ [e]) m3 := hb2
      refine iteT (hb3 F2 B σ2 Hc o2.f o2.g _ fun v Hd r m3 F3 hr o3 a3 => ?_)
      obtain ⟨e, er, hI2⟩ := hr
      have kd : Kx od Ha Hd := kc.trans o3.k
      have ec : Hc D ≠ none := kc.some o2.g (by rw [eD]; intro z; cases z)
      have gr3 : Gr F1 H1 F3 := grc.trans o3.gr (ka.trans kc) o2.g
      have nD3 : ¬ F3 D := o3.gr.out nD2 ec
      obtain ⟨F4, f1, f2', f3, f4, tv⟩ := RsAll.keep (RsAll.cons a3 .nil (fun _ _ k es z => by simp at z)) (show emAll [r] = some [e] by unfold emAll; rw [er]; rfl) o3.f.domF
      have gr4 : Gr F1 H1 F4 := ⟨fun b z => f1 b (gr3.1 b z), fun b z => (f2' b z).elim (gr3.2 b) fun e => .inr ((ka.trans kc).none o2.g e)⟩
      have nD4 : ¬ F4 D := fun z => (f2' D z).elim nD3 ec
      obtain ⟨vs', eD', t'⟩ := kd.lk ga ⟨vs, eD, t⟩
      have fk : FK F4 Hd (upd Hd D (.lst (vs' ++ [v]))) := ⟨tk_updL eD', fun a xs fa ea => by
        rw [upd_ne (fun z => nD4 (by rw [← z]; exact fa))]
        exact ea⟩
      refine ⟨vs', eD', ?_, acc ++ [e], m3, F4, hI2, gr4, dup f3, nD4, kup (ka.trans kd), gup o3.g, vs' ++ [v], upd_same, ?_⟩
      · rw [t'.len]
        have := hle i acc m hI
        exact len20k (by omega)
      · have g24 : ∀ b, F' b → F4 b := fun b z => f1 b (o3.gr.1 b (o2.gr.1 b z))
        exact ((t'.mono g24).fk fk).app (tv.fk fk)
    | false =>
      have hb3 : I (i + 1) acc m2 := hb2
      exact iteF ⟨acc, m2, F2, hb3, grc, o2.f.domF, nD2, ka.trans kc, o2.g, (kc.lk ga ⟨vs, eD, t⟩).mono o2.gr.1⟩
  · obtain ⟨acc, m, F', hI, gr, dF, nD', ka, ga, l⟩ := z
    have o2 : Go K od F B Γ σ H F' H' m := ⟨o1.gr.trans gr o1.k g1, o1.k.trans ka, ga, o1.f.kg ka g1 ga gr dF⟩
    exact k _ H' _ m F' (fin acc m hI) o2 ⟨D, rfl, l, o1.k.none g1 nD, nD', fun z => o1.f.dom D z nD⟩
/-- a comprehension that draws nothing -/
theorem ev_lc {α : Type} {xs : List α} {enc f : α → PyData} {p : α → Bool} {Γ2 : α → List Sl} {wi : TI} {g : TG} {tt : TT} {te : TE} {own : List Nat} (hi : EvI K od wi Γ (xs.map enc)) (hl : xs.length ≤ 20000)
    (hg : ∀ x ∈ xs, ∀ N : List Sl → Prop, N (Γ2 x) → wTg K od g own (enc x) (wipeS Γ own) N) (ht : ∀ x ∈ xs, EvT K od tt (Γ2 x) (p x)) {rr : α → Rs} (he : ∀ x ∈ xs, p x = true → Ev K od te (Γ2 x) (rr x)) (hm : ∀ x ∈ xs, p x = true → (rr x).em = some (f x)) : Ev K od (tLc wi g tt te own) Γ (.fr ((xs.filter p).map f)) := by
  intro n Q q
  refine w_lc (hi n _ ⟨by rw [List.length_map]; exact hl, fun i acc m => acc = ((xs.take i).filter p).map f ∧ m = n, ⟨by simp, rfl⟩, fun i acc m h => ?_, fun i d acc m hd h => ?_, fun acc m h => ?_⟩)
  · rw [h.1, List.length_map]
    refine Nat.le_trans (List.length_filter_le _ _) ?_
    rw [List.length_take]
    omega
  · rw [List.getElem?_map] at hd
    obtain ⟨x, hx, rfl⟩ := Option.map_eq_some_iff.mp hd
    have mem : x ∈ xs := List.mem_of_getElem? hx
    obtain ⟨rfl, rfl⟩ := h
    have tk : (xs.take (i + 1)).filter p = (xs.take i).filter p ++ (if p x = true then [x] else []) := by
      rw [List.take_add_one, hx, List.filter_append]
      congr 1
      show List.filter _ [x] = _
      rw [List.filter_cons, List.filter_nil]
    refine hg x mem _ (ht x mem _ _ ?_)
    cases hp : p x with
    | true =>
      refine iteT ((he x mem hp).w ⟨f x, hm x mem hp, ?_, rfl⟩)
      rw [tk, if_pos hp, List.map_append]
      rfl
    | false =>
      refine iteF ⟨?_, rfl⟩
      rw [tk, if_neg (by rw [hp]; exact Bool.false_ne_true), List.append_nil]
  · obtain ⟨rfl, rfl⟩ := h
    rw [List.length_map, List.take_length]
    exact q
end
end Pb

namespace Pb
open PySem PySem.Spec PyProof.Rows L2 TL
/-! ### statements -/
structure Po where
  nx : List Sl → Nat → Prop
  rt : Rs → Nat → Prop
  bk : List Sl → Nat → Prop := fun _ _ => False
  ct : List Sl → Nat → Prop := fun _ _ => False
def Rs.ret : Rs → Rs
  | .fr ds => .ow ds
  | r => r
def Rs.sl : Rs → Sl
  | .da d => .da d
  | .fr ds => .own ds
  | .dw => .dw
  | _ => .no
/-- more is kept than before, nothing protected of it -/
def GB (F B F' : Addr → Prop) : Prop := (∀ b, F b → F' b) ∧ ∀ b, F' b → F b ∨ ¬ B b
theorem GB.refl (F B : Addr → Prop) : GB F B F := ⟨fun _ z => z, fun _ z => .inl z⟩
theorem GB.trans {F B F1 F2 : Addr → Prop} (a : GB F B F1) (b : GB F1 B F2) : GB F B F2 := ⟨fun x z => b.1 x (a.1 x z), fun x z => (b.2 x z).elim (a.2 x) .inr⟩
theorem GB.less {F B B' F1 : Addr → Prop} (a : GB F B' F1) (h : ∀ b, B b → B' b) : GB F B F1 := ⟨a.1, fun x z => (a.2 x z).elim .inl fun n => .inr fun y => n (h x y)⟩
section
variable (K : PySem.W.Frag) (od : Md)
structure EndsOk (F B : Addr → Prop) (H : Hp) (D : Ends) (P : Po) : Prop where
  nx : ∀ F' σ' H' Γ' n', GB F B F' → P.nx Γ' n' → Fits K od F' B Γ' σ' H' → Gd od n' H' → Pr od F B H H' → D.nx σ' H'
  rt : ∀ F' v H' r n', GB F B F' → P.rt r n' → RsAt K od F' B H' H' v r → (∀ b, F' b → H' b ≠ none) → Gd od n' H' → Pr od F B H H' → D.rt v H'
  bk : ∀ F' σ' H' Γ' n', GB F B F' → P.bk Γ' n' → Fits K od F' B Γ' σ' H' → Gd od n' H' → Pr od F B H H' → D.bk σ' H'
  ct : ∀ F' σ' H' Γ' n', GB F B F' → P.ct Γ' n' → Fits K od F' B Γ' σ' H' → Gd od n' H' → Pr od F B H H' → D.ct σ' H'
def wS (t : TS) (Γ : List Sl) (n : Nat) (P : Po) : Prop :=
  ∀ (F B : Addr → Prop) (σ : L2.St) (H : Hp), Fits K od F B Γ σ H → Gd od n H → ∀ D : Ends, EndsOk K od F B H D P → t D σ H
end
section
variable {K : PySem.W.Frag} {od : Md} {F B : Addr → Prop} {Γ : List Sl} {σ : L2.St} {H : Hp} {n : Nat} {P : Po}
theorem Go.gb {H' : Hp} {F' : Addr → Prop} {m : Nat} (o : Go K od F B Γ σ H F' H' m) (f : Fits K od F B Γ σ H) : GB F B F' := ⟨o.gr.1, fun b z => (o.gr.2 b z).elim .inl fun e => .inr fun y => f.dom b y e⟩
theorem EndsOk.go {H' : Hp} {D : Ends} {F' : Addr → Prop} (e : EndsOk K od F B H D P) (gb : GB F B F') (p : Pr od F B H H') : EndsOk K od F' B H' D P :=
  ⟨fun x a b c d g2 h f g q => e.nx x a b c d (gb.trans g2) h f g (p.trans (q.mono gb.1 fun _ z => z)), fun x a b c d g2 h f hd g q => e.rt x a b c d (gb.trans g2) h f hd g (p.trans (q.mono gb.1 fun _ z => z)), fun x a b c d g2 h f g q => e.bk x a b c d (gb.trans g2) h f g (p.trans (q.mono gb.1 fun _ z => z)), fun x a b c d g2 h f g q => e.ct x a b c d (gb.trans g2) h f g (p.trans (q.mono gb.1 fun _ z => z))⟩
theorem s_next (h : P.nx Γ n) : wS K od tNext Γ n P := fun F B σ H f g D e => e.nx F _ _ _ _ (GB.refl _ _) h f g (Pr.refl _)
theorem s_brk (h : P.bk Γ n) : wS K od tBreak Γ n P := fun F B σ H f g D e => e.bk F _ _ _ _ (GB.refl _ _) h f g (Pr.refl _)
theorem s_cont (h : P.ct Γ n) : wS K od tCont Γ n P := fun F B σ H f g D e => e.ct F _ _ _ _ (GB.refl _ _) h f g (Pr.refl _)
theorem s_seq {t u : TS} (h : wS K od t Γ n { P with nx := fun Γ' n' => wS K od u Γ' n' P }) : wS K od (tSeq t u) Γ n P := fun F B σ H f g D e =>
  h F B σ H f g _ ⟨fun F' σ' H' Γ' n' gb hw f' g' p => hw F' B σ' H' f' g' D (e.go gb p), e.rt, e.bk, e.ct⟩
theorem s_ret {t : TE} (h : wE K od t Γ n fun r m => P.rt r.ret m) : wS K od (tRet t) Γ n P := fun F B σ H f g D e =>
  h F B σ H f g _ fun v H' r m F' hr o a => e.rt F' v H' r.ret m (o.gb f) hr (by
    cases r with
    | fr ds =>
      obtain ⟨x, rfl, l, z, na, nb⟩ := a
      exact ⟨x, rfl, l, na, nb⟩
    | da d => exact a
    | ow ds => exact a
    | al ds => exact a
    | dw => exact a) o.f.domF o.g (o.k.pr g)
theorem s_retN (h : P.rt (.da .none) n) : wS K od tRetN Γ n P := fun F B σ H f g D e => e.rt F _ _ _ _ (GB.refl _ _) h (.non) f.domF g (Pr.refl _)
theorem s_if {t : TT} {a b : TS} (h : wT K od t Γ n fun c m => if c = true then wS K od a Γ m P else wS K od b Γ m P) : wS K od (tIfS t a b) Γ n P := by
  intro F B σ H f g D e
  refine h F B σ H f g _ fun c H1 m F1 q o1 => ?_
  cases c with
  | true => exact iteT ((show wS K od a Γ m P from q) F1 B σ H1 o1.f o1.g D (e.go (o1.gb f) (o1.k.pr g)))
  | false => exact iteF ((show wS K od b Γ m P from q) F1 B σ H1 o1.f o1.g D (e.go (o1.gb f) (o1.k.pr g)))
/-- if, the test told -/
theorem s_ite {t : TT} {a b : TS} {c : Bool} (h : EvT K od t Γ c) (ha : c = true → wS K od a Γ n P) (hb : c = false → wS K od b Γ n P) : wS K od (tIfS t a b) Γ n P := s_if (h _ _ (by
  cases c with
  | true => exact iteT (ha rfl)
  | false => exact iteF (hb rfl)))
theorem Fits.setR {i : Nat} {v : V} {r : Rs} {Hb H' : Hp} {F0 : Addr → Prop} (f : Fits K od F B Γ σ H') (fb : Fits K od F0 B Γ σ Hb) (a : RsAt K od F B Hb H' v r) : Fits K od F B (Γ.set i r.sl) (σ.set i (some v)) H' := by
  cases r with
  | da d => exact f.setD a
  | fr ds =>
    obtain ⟨x, rfl, l, z, na, nb⟩ := a
    exact f.set ⟨x, rfl, l, na, nb⟩ (fun y e _ j _ hl e2 => by
      cases e
      exact fb.lstAt hl e2 z) (fun _ _ z => by obtain ⟨_, z⟩ := z; cases z)
  | ow ds => exact f.setN
  | al ds => exact f.setN
  | dw =>
    obtain ⟨p, e, rfl⟩ := a
    exact f.set ⟨p, e, rfl⟩ (fun _ _ z => by obtain ⟨_, z⟩ := z; cases z) (fun _ _ z => by obtain ⟨_, z⟩ := z; cases z)
theorem s_set {i : Nat} {t : TE} (h : wE K od t Γ n fun r m => P.nx (Γ.set i r.sl) m) : wS K od (tAsg t (gName i)) Γ n P := fun F B σ H f g D e =>
  h F B σ H f g _ fun v H' r m F' hr o a => e.nx F' _ _ _ _ (o.gb f) hr (o.f.setR f a) o.g (o.k.pr g)
theorem s_asg {own : List Nat} {t : TE} {gt : TG} (h : wE K od t Γ n fun r m => ∃ d, r = .da d ∧ wTg K od gt own d Γ fun Γ' => P.nx Γ' m) : wS K od (tAsg t gt) Γ n P := fun F B σ H f g D e =>
  h F B σ H f g _ fun v H' r m F' hr o a => by
    obtain ⟨d, rfl, hg⟩ := hr
    exact hg F' B v σ H' o.f a _ fun σ' Γ' hn f' _ => e.nx F' _ _ _ _ (o.gb f) hn f' o.g (o.k.pr g)
theorem s_drop {t : TE} (h : wE K od t Γ n fun _ m => P.nx Γ m) : wS K od (tDrop t) Γ n P := fun F B σ H f g D e =>
  h F B σ H f g _ fun v H' r m F' hr o a => e.nx F' _ _ _ _ (o.gb f) hr o.f o.g (o.k.pr g)
/-- an own list changed -/
theorem Fits.chg {i : Nat} {ds es : List PyData} {a : Addr} {vs us : List V} (f : Fits K od F B Γ σ H) (hi : Γ[i]? = some (.own ds)) (ea : σ[i]? = some (some (.ref a))) (e : H a = some (.lst vs)) (t : DkAll K F (upd H a (.lst us)) us es) : Fits K od F B (Γ.set i (.own es)) σ (upd H a (.lst us)) := by
  have hil : i < Γ.length := (List.getElem?_eq_some_iff.mp hi).1
  have nb : ¬ F a ∧ ¬ B a := by
    obtain ⟨v, ev, x, ex, l, b⟩ := f.slot hi
    rw [ea] at ev
    cases ev
    cases ex
    exact b
  have fk : FK F H (upd H a (.lst us)) := ⟨tk_updL e, fun x xs fx ex => by
    rw [upd_ne (fun z => nb.1 (by rw [← z]; exact fx))]
    exact ex⟩
  have set_id : σ = σ.set i (some (.ref a)) := by
    apply List.ext_getElem?
    intro j
    by_cases hj : i = j
    · subst hj
      rw [List.getElem?_set_self (by rw [← f.len]; exact hil)]
      exact ea
    · rw [List.getElem?_set_ne hj]
  have own_i : OwnS Γ i := ⟨ds, hi⟩
  refine ⟨by rw [List.length_set, f.len], fun j s v hs hv => ?_, fun j k x hjk ho hl ex => ?_, fun b hb => ?_, fun b hb => ?_, f.cel⟩
  · by_cases hj : i = j
    · subst hj
      rw [List.getElem?_set_self hil] at hs
      cases hs
      rw [ea] at hv
      cases hv
      exact ⟨a, rfl, ⟨us, upd_same, t⟩, nb.1, nb.2⟩
    · rw [List.getElem?_set_ne hj] at hs
      have old := f.at_ j s v hs hv
      have keep : ∀ {x : Addr} {es' : List PyData}, LstS Γ j → v = some (.ref x) → LK K F H x es' → LK K F (upd H a (.lst us)) x es' := fun {x es'} hl hv' l => by
        obtain ⟨ws, ew, tw⟩ := l
        have hx : x ≠ a := fun z => by
          subst z
          exact f.sep i j x hj own_i hl ea (by rw [hv, hv'])
        exact ⟨ws, by rw [upd_ne hx]; exact ew, tw.fk fk⟩
      cases s with
      | no => trivial
      | da d =>
        obtain ⟨x, e1, d1⟩ := old
        exact ⟨x, e1, d1.fk fk⟩
      | own es' =>
        obtain ⟨x, e1, l1, b1⟩ := old
        exact ⟨x, e1, keep ⟨es', .inl hs⟩ e1 l1, b1⟩
      | ro es' =>
        obtain ⟨x, e1, l1⟩ := old
        exact ⟨x, e1, keep ⟨es', .inr hs⟩ e1 l1⟩
      | dw => exact old
  · have own_out : ∀ j, OwnS (Γ.set i (.own es)) j → OwnS Γ j := fun j h => by
      by_cases hj : i = j
      · subst hj
        exact own_i
      · obtain ⟨ds', h⟩ := h
        rw [List.getElem?_set_ne hj] at h
        exact ⟨ds', h⟩
    have lst_out : ∀ j, LstS (Γ.set i (.own es)) j → LstS Γ j := fun j h => by
      by_cases hj : i = j
      · subst hj
        exact ⟨ds, .inl hi⟩
      · obtain ⟨ds', h⟩ := h
        rw [List.getElem?_set_ne hj] at h
        exact ⟨ds', h⟩
    exact f.sep j k x hjk (own_out j ho) (lst_out k hl) ex
  · by_cases hba : b = a
    · rw [hba, upd_same]
      intro z
      cases z
    · rw [upd_ne hba]
      exact f.dom b hb
  · by_cases hba : b = a
    · rw [hba, upd_same]
      intro z
      cases z
    · rw [upd_ne hba]
      exact f.domF b hb
theorem Gd.chg {m : Nat} {a : Addr} {vs : List V} {o : HO} (g : Gd od m H) (f : Fits K od F B Γ σ H) (nb : ¬ B a) (e : H a = some (.lst vs)) : Gd od m (upd H a o) := g.updF fun p hp => by
  refine ⟨fun z => ?_, fun z => ?_⟩
  · subst hp
    obtain ⟨x, l, u, cs, e1, _⟩ := g
    rw [z, e1] at e
    cases e
  · exact nb (by rw [z]; exact f.cel p hp)
theorem fk_chg {a : Addr} {vs us : List V} (nf : ¬ F a) (e : H a = some (.lst vs)) : FK F H (upd H a (.lst us)) := ⟨tk_updL e, fun x xs fx ex => by
  rw [upd_ne (fun z => nf (by rw [← z]; exact fx))]
  exact ex⟩
theorem Pr.chg {F0 : Addr → Prop} {a : Addr} {vs us : List V} (h0 : ∀ b, F0 b → F b) (nf : ¬ F a) (nb : ¬ B a) (e : H a = some (.lst vs)) : Pr od F0 B H (upd H a (.lst us)) := ⟨(fk_chg nf e).mono h0, fun b o hb _ eb => by
  rw [upd_ne (fun z => nb (by rw [← z]; exact hb))]
  exact eb⟩
theorem s_append {i : Nat} {t : TE} {ds : List PyData} (hi : Γ[i]? = some (.own ds)) (h : wE K od t Γ n fun r m => ∃ d, r = .da d ∧ ds.length < 30000 ∧ P.nx (Γ.set i (.own (ds ++ [d]))) m) : wS K od (tDrop (tBM K "list" rAppend (tVar i) (tCons t tNil))) Γ n P := by
  intro F B σ H f g D e
  obtain ⟨v, ev, a, rfl, l, nf, nb⟩ := f.slot hi
  refine ⟨.ref a, ev, .inl ⟨rfl, _, .of l.choose_spec.1⟩, h F B σ H f g _ fun v H1 r m F1 hr o1 a1 => ?_⟩
  obtain ⟨d, rfl, hl, hp⟩ := hr
  have nf1 := o1.gr.out nf l.ne_none
  obtain ⟨vs, ea, tv⟩ := (o1.k.lk g l).mono o1.gr.1
  have f1 := o1.f
  refine ⟨a, vs, v, rfl, rfl, ea, by rw [tv.len]; exact len20k (by omega), ?_⟩
  refine e.nx F1 _ _ _ _ (o1.gb f) hp (f1.chg hi ev ea ?_) (o1.g.chg f1 nb ea) ((o1.k.pr g).trans (Pr.chg o1.gr.1 nf1 nb ea))
  exact (tv.fk (fk_chg nf1 ea)).app (.cons (Dk.fk (fk_chg nf1 ea) a1) .nil)
theorem s_extT {i : Nat} {t : TE} {ds : List PyData} (hi : Γ[i]? = some (.own ds)) (h : wE K od t Γ n fun r m => ∃ es, r = .da (.tuple es) ∧ ds.length + es.length ≤ 30000 ∧ P.nx (Γ.set i (.own (ds ++ es))) m) (sq : ∀ {H' : Hp} {a : Addr} {vs : List V}, TupIn K H' a vs → SqT K H' a vs := TupIn.sq) : wS K od (tDrop (tBM K "list" (rExtT K) (tVar i) (tCons t tNil))) Γ n P := by
  intro F B σ H f g D e
  obtain ⟨v, ev, a, rfl, l, nf, nb⟩ := f.slot hi
  refine ⟨.ref a, ev, .inl ⟨rfl, _, .of l.choose_spec.1⟩, h F B σ H f g _ fun v H1 r m F1 hr o1 a1 => ?_⟩
  obtain ⟨es, rfl, hl, hp⟩ := hr
  have nf1 := o1.gr.out nf l.ne_none
  obtain ⟨vs, ea, tv⟩ := (o1.k.lk g l).mono o1.gr.1
  have f1 := o1.f
  obtain ⟨b, us, rfl, eb, tb⟩ := Dk.tup' a1
  refine ⟨a, b, vs, us, rfl, rfl, ea, eb.sq, by rw [tv.len, tb.len]; exact Nat.le_of_lt (len20k hl), ?_⟩
  refine e.nx F1 _ _ _ _ (o1.gb f) hp (f1.chg hi ev ea ?_) (o1.g.chg f1 nb ea) ((o1.k.pr g).trans (Pr.chg o1.gr.1 nf1 nb ea))
  exact (tv.fk (fk_chg nf1 ea)).app (tb.fk (fk_chg nf1 ea))
theorem s_extend {i : Nat} {t : TE} {ds : List PyData} (hi : Γ[i]? = some (.own ds)) (h : wE K od t Γ n fun r m => ∃ es, r.lst? = some es ∧ ds.length + es.length ≤ 30000 ∧ P.nx (Γ.set i (.own (ds ++ es))) m) : wS K od (tDrop (tBM K "list" rExtend (tVar i) (tCons t tNil))) Γ n P := by
  intro F B σ H f g D e
  obtain ⟨v, ev, a, rfl, l, nf, nb⟩ := f.slot hi
  refine ⟨.ref a, ev, .inl ⟨rfl, _, .of l.choose_spec.1⟩, h F B σ H f g _ fun v H1 r m F1 hr o1 a1 => ?_⟩
  obtain ⟨es, hx, hl, hp⟩ := hr
  have nf1 := o1.gr.out nf l.ne_none
  obtain ⟨vs, ea, tv⟩ := (o1.k.lk g l).mono o1.gr.1
  have f1 := o1.f
  obtain ⟨b, rfl, us, eb, tb⟩ := a1.ls hx
  refine ⟨a, b, vs, us, rfl, rfl, ea, eb, by rw [tv.len, tb.len]; exact Nat.le_of_lt (len20k hl), ?_⟩
  refine e.nx F1 _ _ _ _ (o1.gb f) hp (f1.chg hi ev ea ?_) (o1.g.chg f1 nb ea) ((o1.k.pr g).trans (Pr.chg o1.gr.1 nf1 nb ea))
  exact (tv.fk (fk_chg nf1 ea)).app (tb.fk (fk_chg nf1 ea))
/-- xs[k] = v -/
theorem s_item {i : Nat} {t u : TE} {ds : List PyData} (hi : Γ[i]? = some (.own ds)) (h : wE K od t Γ n fun r m => ∃ d, r = .da d ∧ wE K od u Γ m fun r' m' => ∃ (k : Int) (j : Nat), r' = .da (.int k) ∧ ixN ds.length k = some j ∧ P.nx (Γ.set i (.own (ds.set j d))) m') : wS K od (tAsg t (gSub (tVar i) u rSetL)) Γ n P := by
  intro F B σ H f g D e
  obtain ⟨v, ev, a, rfl, l, nf, nb⟩ := f.slot hi
  refine h F B σ H f g _ fun v H1 r m F1 hr o1 a1 => ⟨.ref a, ev, ?_⟩
  obtain ⟨d, rfl, hu⟩ := hr
  refine hu F1 B σ H1 o1.f o1.g _ fun v2 H2 r2 m2 F2 hr2 o2 a2 => ?_
  obtain ⟨k, j, rfl, hk, hp⟩ := hr2
  have o12 := o1.trans o2
  have nf2 := o12.gr.out nf l.ne_none
  obtain ⟨vs, ea, tv⟩ := (o12.k.lk g l).mono o12.gr.1
  rw [Dk.int' a2]
  refine ⟨a, vs, k, j, rfl, rfl, ea, by rw [tv.len]; exact hk, ?_⟩
  refine e.nx F2 _ _ _ _ (o12.gb f) hp (o2.f.chg hi ev ea ?_) (o2.g.chg o2.f nb ea) ((o12.k.pr g).trans (Pr.chg o12.gr.1 nf2 nb ea))
  exact (tv.fk (fk_chg nf2 ea)).set (Dk.fk (fk_chg nf2 ea) (a1.step o2.gr o2.k o1.g)) j
theorem s_aug {i : Nat} {t : TE} {fn : Int → Int → Int} {x : Int} (hi : Γ[i]? = some (.da (.int x))) (h : wE K od t Γ n fun r m => ∃ y, r = .da (.int y) ∧ P.nx (Γ.set i (.da (.int (fn x y)))) m) : wS K od (tAug i t (ipI fn)) Γ n P := by
  intro F B σ H f g D e
  obtain ⟨v, ev, z, rfl, dz⟩ := f.slot hi
  refine ⟨z, ev, h F B σ H f g _ fun v H1 r m F1 hr o1 a1 => ?_⟩
  obtain ⟨y, rfl, hp⟩ := hr
  rw [Dk.int' dz, Dk.int' a1]
  exact ⟨x, y, rfl, rfl, e.nx F1 _ _ _ _ (o1.gb f) hp (o1.f.setD (.int _)) o1.g (o1.k.pr g)⟩
theorem s_par {i j : Nat} {t : TA} (hij : i ≠ j) (h : wA K od t Γ n fun rs m => ∃ x y, rs = [x, y] ∧ P.nx ((Γ.set i x.sl).set j y.sl) m) : wS K od (tPar i j t) Γ n P := by
  intro F B σ H f g D e
  refine h F B σ H f g _ fun vs H1 rs m F1 hr o1 a1 => ?_
  obtain ⟨x, y, rfl, hp⟩ := hr
  cases a1 with
  | cons ax a1 ne =>
    obtain ⟨w, rfl, ay⟩ := a1.one
    rename_i v
    refine ⟨v, w, rfl, e.nx F1 _ _ _ _ (o1.gb f) hp ?_ o1.g (o1.k.pr g)⟩
    have fx : Fits K od F1 B (Γ.set i x.sl) (σ.set i (some v)) H1 := o1.f.setR f ax
    cases y with
    | da d => exact fx.setD ay
    | fr ds =>
      obtain ⟨z, rfl, l, nz, na, nb⟩ := ay
      refine fx.set ⟨z, rfl, l, na, nb⟩ (fun q eq _ k _ hl e2 => ?_) (fun _ _ z => by obtain ⟨_, z⟩ := z; cases z)
      cases eq
      by_cases hk : i = k
      · subst hk
        have hil : i < Γ.length := by
          obtain ⟨es, hl⟩ := hl
          rcases hl with hl | hl
          · have := (List.getElem?_eq_some_iff.mp hl).1
            rw [List.length_set] at this
            exact this
          · have := (List.getElem?_eq_some_iff.mp hl).1
            rw [List.length_set] at this
            exact this
        rw [List.getElem?_set_self (by rw [← f.len]; exact hil)] at e2
        cases e2
        cases x with
        | fr es => exact ne es rfl 0 ds rfl rfl
        | da d =>
          obtain ⟨es, hl⟩ := hl
          rw [List.getElem?_set_self hil] at hl
          rcases hl with hl | hl <;> cases hl
        | ow d =>
          obtain ⟨es, hl⟩ := hl
          rw [List.getElem?_set_self hil] at hl
          rcases hl with hl | hl <;> cases hl
        | al d =>
          obtain ⟨es, hl⟩ := hl
          rw [List.getElem?_set_self hil] at hl
          rcases hl with hl | hl <;> cases hl
        | dw =>
          obtain ⟨es, hl⟩ := hl
          rw [List.getElem?_set_self hil] at hl
          rcases hl with hl | hl <;> cases hl
      · rw [List.getElem?_set_ne hk] at e2
        obtain ⟨es, hl⟩ := hl
        rw [List.getElem?_set_ne hk] at hl
        exact f.lstAt ⟨es, hl⟩ e2 nz
    | ow ds => exact fx.setN
    | al ds => exact fx.setN
    | dw =>
      obtain ⟨p, e, rfl⟩ := ay
      exact fx.set ⟨p, e, rfl⟩ (fun _ _ z => by obtain ⟨_, z⟩ := z; cases z) (fun _ _ z => by obtain ⟨_, z⟩ := z; cases z)
/-! loops -/
theorem Fits.shrink {B' : Addr → Prop} (f : Fits K od F B' Γ σ H) (h : ∀ b, B b → B' b) (hc : ∀ p, od = some p → B p.2) : Fits K od F B Γ σ H := by
  refine ⟨f.len, fun i s v hs hv => ?_, f.sep, fun b hb => f.dom b (h b hb), f.domF, hc⟩
  have a := f.at_ i s v hs hv
  cases s with
  | own ds =>
    obtain ⟨x, e, l, nf, nb⟩ := a
    exact ⟨x, e, l, nf, fun z => nb (h x z)⟩
  | _ => exact a
theorem Fits.grow {a : Addr} (f : Fits K od F B Γ σ H) (ha : H a ≠ none) (h : ∀ i, OwnS Γ i → σ[i]? ≠ some (some (.ref a))) : Fits K od F (fun b => B b ∨ b = a) Γ σ H := by
  refine ⟨f.len, fun i s v hs hv => ?_, f.sep, fun b hb => hb.elim (f.dom b) (fun e => by rw [e]; exact ha), f.domF, fun p hp => .inl (f.cel p hp)⟩
  have z := f.at_ i s v hs hv
  cases s with
  | own ds =>
    obtain ⟨x, e, l, nf, nb⟩ := z
    refine ⟨x, e, l, nf, fun z => z.elim nb fun ex => ?_⟩
    subst ex
    exact h i ⟨ds, hs⟩ (by rw [hv, e])
  | _ => exact z
theorem RsAt.shrink {B' : Addr → Prop} {Hb : Hp} {v : V} {r : Rs} (a : RsAt K od F B' Hb H v r) (h : ∀ b, B b → B' b) : RsAt K od F B Hb H v r := by
  cases r with
  | ow ds =>
    obtain ⟨x, e, l, nf, nb⟩ := a
    exact ⟨x, e, l, nf, fun z => nb (h x z)⟩
  | da d => exact a
  | fr ds =>
    obtain ⟨x, e, l, z, nf, nb⟩ := a
    exact ⟨x, e, l, z, nf, fun z => nb (h x z)⟩
  | al ds => exact a
  | dw => exact a
theorem s_for {wi : TI} {gt : TG} {tb : TS} {own : List Nat} (h : wF K od wi Γ n fun ds Γ1 n1 => ∃ I : Nat → List Sl → Nat → Prop, I 0 Γ1 n1 ∧
      (∀ i d Γ' m, ds[i]? = some d → I i Γ' m → wTg K od gt own d Γ' fun Γ2 => wS K od tb Γ2 m { nx := I (i + 1), ct := I (i + 1), bk := P.nx, rt := P.rt }) ∧ ∀ Γ' m, I ds.length Γ' m → P.nx Γ' m) : wS K od (tFor wi gt tb) Γ n P := by
  intro F B σ H f g D e
  refine h F B σ H f g _ fun J H1 ds Γ1 n1 F1 B' hq hF k1 g1 hB f1 W => ?_
  obtain ⟨I, h0, step, fin⟩ := hq
  obtain ⟨G, Y, w, hG, hY⟩ := W
  refine for_it w (fun i σ' H' => ∃ Γ' m F', I i Γ' m ∧ GB F1 B' F' ∧ Fits K od F' B' Γ' σ' H' ∧ Gd od m H' ∧ Pr od F1 B' H1 H') ⟨Γ1, n1, F1, h0, GB.refl _ _, f1, g1, Pr.refl _⟩ (fun i σ' H' _ z => ?_) (fun i x σ' Ha Hb hi z y => ?_) fun σ' H' z => ?_
  · obtain ⟨Γ', m, F', _, _, _, _, p⟩ := z
    exact hG H' p
  · obtain ⟨Γ', m, F', hI, gb, f', g', p⟩ := z
    obtain ⟨s1, dx⟩ := hY i _ Ha x Hb (List.getElem?_eq_getElem hi) p y
    have g2 := g'.same s1
    have fb := f'.kx (Same.kx s1) g' g2
    have pb : Pr od F1 B' H1 Hb := p.trans ((Same.kx (od := od) s1).pr g')
    refine step i _ Γ' m (List.getElem?_eq_getElem hi) hI F' B' x σ' Hb fb (dx.mono gb.1) _ fun σ2 Γ2 hw f2 _ => hw F' B' σ2 Hb f2 g2 _ ⟨?_, ?_, ?_, ?_⟩
    · exact fun F3 σ3 H3 Γ3 n3 gb3 hI3 f3 g3 p3 => ⟨Γ3, n3, F3, hI3, gb.trans gb3, f3, g3, pb.trans (p3.mono gb.1 fun _ z => z)⟩
    · exact fun F3 v H3 r n3 gb3 hr a3 hd g3 p3 => e.rt F3 v H3 r n3 (GB.trans hF ((gb.trans gb3).less hB)) hr (a3.shrink hB) hd g3 ((k1.pr g).trans ((pb.trans (p3.mono gb.1 fun _ z => z)).mono hF.1 hB))
    · exact fun F3 σ3 H3 Γ3 n3 gb3 hn f3 g3 p3 => e.nx F3 _ _ _ _ (GB.trans hF ((gb.trans gb3).less hB)) hn (f3.shrink hB f.cel) g3 ((k1.pr g).trans ((pb.trans (p3.mono gb.1 fun _ z => z)).mono hF.1 hB))
    · exact fun F3 σ3 H3 Γ3 n3 gb3 hI3 f3 g3 p3 => ⟨Γ3, n3, F3, hI3, gb.trans gb3, f3, g3, pb.trans (p3.mono gb.1 fun _ z => z)⟩
  · obtain ⟨Γ', m, F', hI, gb, f', g', p⟩ := z
    exact e.nx F' _ _ _ _ (GB.trans hF (gb.less hB)) (fin Γ' m hI) (f'.shrink hB f.cel) g' ((k1.pr g).trans (p.mono hF.1 hB))
theorem s_while {tc : TT} {tb : TS} (I : Nat → List Sl → Nat → Prop) (h0 : ∃ m, I m Γ n)
    (step : ∀ m Γ' n', I m Γ' n' → wT K od tc Γ' n' fun b n1 => if b = true then wS K od tb Γ' n1 { nx := fun Γ2 n2 => ∃ m', m' < m ∧ I m' Γ2 n2, ct := fun Γ2 n2 => ∃ m', m' < m ∧ I m' Γ2 n2, bk := P.nx, rt := P.rt } else P.nx Γ' n1) : wS K od (tWhile tc tb) Γ n P := by
  intro F B σ H f g D e
  obtain ⟨m0, i0⟩ := h0
  refine ⟨fun m σ' H' => ∃ Γ' n' F', I m Γ' n' ∧ GB F B F' ∧ Fits K od F' B Γ' σ' H' ∧ Gd od n' H' ∧ Pr od F B H H', ⟨m0, Γ, n, F, i0, GB.refl _ _, f, g, Pr.refl _⟩, fun m σ' H' z => ?_⟩
  obtain ⟨Γ', n', F', hI, gb, f', g', p⟩ := z
  refine step m Γ' n' hI F' B σ' H' f' g' _ fun b H1 n1 F1 hb o1 => ?_
  have gb1 := gb.trans (o1.gb f')
  have p1 : Pr od F B H H1 := p.trans (o1.k.pr g')
  cases b with
  | true =>
    have hb' : wS K od tb Γ' n1 { nx := fun Γ2 n2 => ∃ m', m' < m ∧ I m' Γ2 n2, ct := fun Γ2 n2 => ∃ m', m' < m ∧ I m' Γ2 n2, bk := P.nx, rt := P.rt } := hb
    refine iteT ⟨fun σ2 H2 => ∃ m', m' < m ∧ ∃ Γ2 n2 F2, I m' Γ2 n2 ∧ GB F B F2 ∧ Fits K od F2 B Γ2 σ2 H2 ∧ Gd od n2 H2 ∧ Pr od F B H H2, fun σ2 H2 z => z, hb' F1 B σ' H1 o1.f o1.g _ ⟨?_, ?_, ?_, ?_⟩⟩
    · exact fun F3 σ3 H3 Γ3 n3 gb3 hI3 f3 g3 p3 => by
        obtain ⟨m', lt, hI3⟩ := hI3
        exact ⟨m', lt, Γ3, n3, F3, hI3, gb1.trans gb3, f3, g3, p1.trans (p3.mono gb1.1 fun _ z => z)⟩
    · exact fun F3 v H3 r n3 gb3 hr a3 hd g3 p3 => e.rt F3 v H3 r n3 (gb1.trans gb3) hr a3 hd g3 (p1.trans (p3.mono gb1.1 fun _ z => z))
    · exact fun F3 σ3 H3 Γ3 n3 gb3 hn f3 g3 p3 => e.nx F3 _ _ _ _ (gb1.trans gb3) hn f3 g3 (p1.trans (p3.mono gb1.1 fun _ z => z))
    · exact fun F3 σ3 H3 Γ3 n3 gb3 hI3 f3 g3 p3 => by
        obtain ⟨m', lt, hI3⟩ := hI3
        exact ⟨m', lt, Γ3, n3, F3, hI3, gb1.trans gb3, f3, g3, p1.trans (p3.mono gb1.1 fun _ z => z)⟩
  | false => exact iteF (e.nx F1 _ _ _ _ gb1 (show P.nx Γ' n1 from hb) o1.f o1.g p1)
/-- an own list is kept as data from here on -/
theorem s_keep {t : TS} {i : Nat} {ds : List PyData} (hi : Γ[i]? = some (.own ds)) (h : wS K od t (Γ.set i (.da (.list ds))) n P) : wS K od t Γ n P := by
  intro F B σ H f g D e
  obtain ⟨v, ev, a, rfl, l, nf, nb⟩ := f.slot hi
  have hil : i < Γ.length := (List.getElem?_eq_some_iff.mp hi).1
  have set_id : σ.set i (some (.ref a)) = σ := by
    apply List.ext_getElem?
    intro j
    by_cases hj : i = j
    · subst hj
      rw [List.getElem?_set_self (by rw [← f.len]; exact hil)]
      exact ev.symm
    · rw [List.getElem?_set_ne hj]
  have up : ∀ b, F b → (F b ∨ b = a) := fun _ z => .inl z
  have f0 : Fits K od (fun b => F b ∨ b = a) B (Γ.set i (.da (.list ds))) σ H := by
    refine ⟨by rw [List.length_set, f.len], fun j s v hs hv => ?_, fun j k x hjk ho hl ex => ?_, f.dom, fun b hb => hb.elim (f.domF b) (fun z => by rw [z]; exact l.ne_none), f.cel⟩
    · by_cases hj : i = j
      · subst hj
        rw [List.getElem?_set_self hil] at hs
        cases hs
        rw [ev] at hv
        cases hv
        obtain ⟨ws, ew, tw⟩ := l
        exact ⟨_, rfl, .lst ew (.inr rfl) (tw.mono up)⟩
      · rw [List.getElem?_set_ne hj] at hs
        have old := f.at_ j s v hs hv
        cases s with
        | no => trivial
        | da d =>
          obtain ⟨x, e1, d1⟩ := old
          exact ⟨x, e1, d1.mono up⟩
        | own es' =>
          obtain ⟨x, e1, l1, nf1, nb1⟩ := old
          refine ⟨x, e1, l1.mono up, fun z => z.elim nf1 fun ex => ?_, nb1⟩
          subst ex
          exact f.sep i j x hj ⟨ds, hi⟩ ⟨es', .inl hs⟩ ev (by rw [hv, e1])
        | ro es' =>
          obtain ⟨x, e1, l1⟩ := old
          exact ⟨x, e1, l1.mono up⟩
        | dw => exact old
    · have out : ∀ j, i ≠ j ∨ True → OwnS (Γ.set i (.da (.list ds))) j → OwnS Γ j := fun j _ h => by
        by_cases hj : i = j
        · subst hj
          exact ⟨ds, hi⟩
        · obtain ⟨ds', h⟩ := h
          rw [List.getElem?_set_ne hj] at h
          exact ⟨ds', h⟩
      have lout : ∀ j, LstS (Γ.set i (.da (.list ds))) j → LstS Γ j := fun j h => by
        by_cases hj : i = j
        · subst hj
          exact ⟨ds, .inl hi⟩
        · obtain ⟨ds', h⟩ := h
          rw [List.getElem?_set_ne hj] at h
          exact ⟨ds', h⟩
      exact f.sep j k x hjk (out j (.inr trivial) ho) (lout k hl) ex
  exact h _ B σ H f0 g D (e.go ⟨up, fun b z => z.elim .inl fun z => .inr (by rw [z]; exact nb)⟩ (Pr.refl _))
/-! what a for walks over -/
theorem f_pure {wi : TI} {ds : List PyData} (h : ∀ (n : Nat) (F B : Addr → Prop) (σ : L2.St) (H : Hp), Fits K od F B Γ σ H → Gd od n H → ∀ R : It → Hp → Prop, (∀ J H' F', Go K od F B Γ σ H F' H' n → WalkD K od F' (fun _ => False) H' J ds → R J H') → wi σ H R) : EvF K od wi Γ ds Γ := by
  intro n Q q F B σ H f g R k
  exact h n F B σ H f g R fun J H' F' o w => k J H' ds Γ n F' B q (o.gb f) o.k o.g (fun _ z => z) o.f (w.mono fun _ z => z.elim)
theorem f_tup {t : TE} {ds : List PyData} (h : Ev K od t Γ (.da (.tuple ds))) : EvF K od (iTup K t) Γ ds Γ := f_pure fun n F B σ H f g R k => by
  refine h n (fun r m => r = .da (.tuple ds) ∧ m = n) ⟨rfl, rfl⟩ F B σ H f g _ fun v H1 x m F1 e o1 a1 => ?_
  obtain ⟨rfl, rfl⟩ := e
  obtain ⟨a, vs, rfl, e, t⟩ := Dk.tup' a1
  exact ⟨a, rfl, ⟨_, e.sq⟩, k _ H1 F1 o1 (walkD_tup e t)⟩
theorem f_rng1 {t : TA} {j : Int} (h : EvA K od t Γ [.da (.int j)]) (hj : -(2 ^ 62) ≤ j ∧ j < 2 ^ 62) : EvF K od (iRng1 t) Γ (rngD 0 j.toNat) Γ := f_pure fun n F B σ H f g R k => by
  refine h n (fun r m => r = [.da (.int j)] ∧ m = n) ⟨rfl, rfl⟩ F B σ H f g _ fun v H1 x m F1 e o1 a1 => ?_
  obtain ⟨rfl, rfl⟩ := e
  obtain ⟨u, rfl, a2⟩ := a1.one
  rw [Dk.int' a2]
  exact ⟨j, rfl, hj.1, hj.2, k _ H1 F1 o1 walkD_rng⟩
theorem f_rng2 {t : TA} {i j : Int} (h : EvA K od t Γ [.da (.int i), .da (.int j)]) (hj : -(2 ^ 62) ≤ i ∧ i < 2 ^ 62 ∧ -(2 ^ 62) ≤ j ∧ j < 2 ^ 62) : EvF K od (iRng2 t) Γ (rngD i (j - i).toNat) Γ := f_pure fun n F B σ H f g R k => by
  refine h n (fun r m => r = [.da (.int i), .da (.int j)] ∧ m = n) ⟨rfl, rfl⟩ F B σ H f g _ fun v H1 x m F1 e o1 a1 => ?_
  obtain ⟨rfl, rfl⟩ := e
  obtain ⟨u, w, rfl, a2, a3⟩ := a1.two
  rw [Dk.int' a2, Dk.int' a3]
  exact ⟨i, j, rfl, hj, k _ H1 F1 o1 walkD_rng⟩
theorem f_zipT {t : TA} {ds es : List PyData} (h : EvA K od t Γ [.da (.tuple ds), .da (.tuple es)]) : EvF K od (RZ.iZipA K t) Γ (zipD ds es) Γ := f_pure fun n F B σ H f g R k => by
  refine h n (fun r m => r = [.da (.tuple ds), .da (.tuple es)] ∧ m = n) ⟨rfl, rfl⟩ F B σ H f g _ fun v H1 x m F1 e o1 a1 => ?_
  obtain ⟨rfl, rfl⟩ := e
  obtain ⟨u, w, rfl, a2, a3⟩ := a1.two
  obtain ⟨a, vs, rfl, e1, t1⟩ := Dk.tup' a2
  obtain ⟨b, us, rfl, e2, t2⟩ := Dk.tup' a3
  exact ⟨a, b, vs, us, rfl, .inr ⟨e1.sq, e2.sq, k _ H1 F1 o1 (walkD_zipT e1 t1 e2 t2)⟩⟩
theorem f_enT {t : TA} {ds : List PyData} (h : EvA K od t Γ [.da (.tuple ds)]) : EvF K od (iEnumT K t) Γ (enumD ds) Γ := f_pure fun n F B σ H f g R k => by
  refine h n (fun r m => r = [.da (.tuple ds)] ∧ m = n) ⟨rfl, rfl⟩ F B σ H f g _ fun v H1 x m F1 e o1 a1 => ?_
  obtain ⟨rfl, rfl⟩ := e
  obtain ⟨u, rfl, a2⟩ := a1.one
  obtain ⟨a, vs, rfl, e1, t1⟩ := Dk.tup' a2
  exact ⟨a, vs, rfl, e1.sq, k _ H1 F1 o1 (walkD_enT e1 t1)⟩
/-- over a new list -/
theorem f_lstN {t : TE} {ds : List PyData} (h : Ev K od t Γ (.fr ds)) : EvF K od (iList K t) Γ ds Γ := by
  intro n Q q F B σ H f g R k
  refine h n (fun r m => r = .fr ds ∧ m = n) ⟨rfl, rfl⟩ F B σ H f g _ fun v H1 x m F1 e o1 a1 => ?_
  obtain ⟨rfl, rfl⟩ := e
  obtain ⟨a, rfl, l, na, _, _⟩ := a1
  have f1 := o1.f.grow l.ne_none fun i ho e => f.lstAt (ho.elim fun ds h => ⟨ds, .inl h⟩) e na
  obtain ⟨vs, e, t⟩ := l
  exact ⟨a, rfl, ⟨_, .of e⟩, k _ H1 ds Γ m F1 _ q (o1.gb f) o1.k o1.g (fun _ z => .inl z) f1 (walkD_lst o1.g (.inr rfl) e t)⟩
/-- over a list that isn't ours -/
theorem f_lstR {i : Nat} {ds : List PyData} (hi : Γ[i]? = some (.ro ds)) : EvF K od (iList K (tVar i)) Γ ds Γ := by
  intro n Q q F B σ H f g R k
  obtain ⟨v, ev, a, rfl, l⟩ := f.slot hi
  have f1 := f.grow l.ne_none fun j ho e => by
    by_cases hj : j = i
    · subst hj
      obtain ⟨es, ho⟩ := ho
      rw [hi] at ho
      cases ho
    · exact f.sep j i a hj ho ⟨ds, .inr hi⟩ e ev
  obtain ⟨vs, e, t⟩ := l
  exact ⟨_, ev, a, rfl, ⟨_, .of e⟩, k _ H ds Γ n F _ q (GB.refl _ _) (Kx.refl _ _) g (fun _ z => .inl z) f1 (walkD_lst g (.inr rfl) e t)⟩
/-- over an own list: it isn't changed from here on -/
theorem f_lstO {i : Nat} {ds : List PyData} (hi : Γ[i]? = some (.own ds)) : EvF K od (iList K (tVar i)) Γ ds (Γ.set i (.ro ds)) := by
  intro n Q q F B σ H f g R k
  obtain ⟨v, ev, a, rfl, l, nf, nb⟩ := f.slot hi
  have hil : i < Γ.length := (List.getElem?_eq_some_iff.mp hi).1
  have set_id : σ.set i (some (.ref a)) = σ := by
    apply List.ext_getElem?
    intro j
    by_cases hj : i = j
    · subst hj
      rw [List.getElem?_set_self (by rw [← f.len]; exact hil)]
      exact ev.symm
    · rw [List.getElem?_set_ne hj]
  have f0 : Fits K od F B (Γ.set i (.ro ds)) (σ.set i (some (.ref a))) H := f.set ⟨a, rfl, l⟩ (fun _ _ z => by obtain ⟨_, z⟩ := z; cases z) (fun x ex _ j hj ho e => by
    cases ex
    exact f.sep j i a hj ho ⟨ds, .inl hi⟩ e ev)
  rw [set_id] at f0
  have f1 := f0.grow l.ne_none fun j ho e => by
    by_cases hj : i = j
    · subst hj
      obtain ⟨es, ho⟩ := ho
      rw [List.getElem?_set_self hil] at ho
      cases ho
    · obtain ⟨es, ho⟩ := ho
      rw [List.getElem?_set_ne hj] at ho
      exact f.sep j i a (Ne.symm hj) ⟨es, ho⟩ ⟨ds, .inl hi⟩ e ev
  obtain ⟨vs, e, t⟩ := l
  exact ⟨_, ev, a, rfl, ⟨_, .of e⟩, k _ H ds _ n F _ q (GB.refl _ _) (Kx.refl _ _) g (fun _ z => .inl z) f1 (walkD_lst g (.inr rfl) e t)⟩
end
end Pb

namespace Pb
open PySem PySem.Spec PyProof.Rows L2 TL
/-! ### defs by data -/
inductive Av
  | da (d : PyData)
  | li (ds : List PyData)
  | dw
def Av.sl : Av → Sl
  | .da d => .da d
  | .li ds => .ro ds
  | .dw => .dw
def Rs.av : Rs → Av
  | .da d => .da d
  | .fr ds => .li ds
  | .ow ds => .li ds
  | .al ds => .li ds
  | .dw => .dw
def AvAt (K : PySem.W.Frag) (od : Md) (F : Addr → Prop) (H : Hp) (v : V) : Av → Prop
  | .da d => Dk K F H v d
  | .li ds => ∃ a, v = .ref a ∧ LK K F H a ds
  | .dw => ∃ p, od = some p ∧ v = .ref p.1
inductive AvAll (K : PySem.W.Frag) (od : Md) (F : Addr → Prop) (H : Hp) : List V → List Av → Prop
  | nil : AvAll K od F H [] []
  | cons {v : V} {a : Av} {vs : List V} {as : List Av} (h : AvAt K od F H v a) (t : AvAll K od F H vs as) : AvAll K od F H (v :: vs) (a :: as)
def OutAt (K : PySem.W.Frag) (F : Addr → Prop) (H H' : Hp) (v : V) : Rs → Prop
  | .da d => Dk K F H' v d
  | .fr ds => ∃ a, v = .ref a ∧ LK K F H' a ds ∧ H a = none ∧ ¬ F a
  | _ => False
def Rs.out : Rs → Option Rs
  | .da d => some (.da d)
  | .ow ds => some (.fr ds)
  | _ => none
abbrev Tr := List Av → (Rs → Prop) → Prop
abbrev TrR := List Av → Nat → (Rs → Nat → Prop) → Prop
/-- a def that draws nothing -/
def spD (K : PySem.W.Frag) (T : Tr) : Sp := fun vs H Q _ => ∃ (F : Addr → Prop) (as : List Av) (P : Rs → Prop), (∀ b, F b → H b ≠ none) ∧ AvAll K none F H vs as ∧ T as P ∧
  ∀ (v : V) (H' : Hp) (r : Rs) (F' : Addr → Prop), P r → Gr F H F' → (∀ b, F' b → H' b ≠ none) → Same H H' → OutAt K F' H H' v r → Q v H'
/-- a def that draws -/
def spR (K : PySem.W.Frag) (T : TrR) : Sp := fun vs H Q _ => ∃ (p : Addr × Addr) (F : Addr → Prop) (as : List Av) (n : Nat) (P : Rs → Nat → Prop), (∀ b, F b → H b ≠ none) ∧ DrC H p.1 p.2 n ∧ AvAll K (some p) F H vs as ∧ T as n P ∧
  ∀ (v : V) (H' : Hp) (r : Rs) (n' : Nat) (F' : Addr → Prop), P r n' → Gr F H F' → (∀ b, F' b → H' b ≠ none) → Kp p.1 H H' → DrC H' p.1 p.2 n' → OutAt K F' H H' v r → Q v H'
section
variable {K : PySem.W.Frag} {od : Md} {F B : Addr → Prop} {Γ : List Sl} {σ : L2.St} {H : Hp} {n : Nat}
theorem AvAll.len {vs : List V} {as : List Av} (h : AvAll K od F H vs as) : vs.length = as.length := by
  induction h with
  | nil => rfl
  | cons h t ih => rw [List.length_cons, List.length_cons, ih]
theorem AvAll.get {vs : List V} {as : List Av} (h : AvAll K od F H vs as) : ∀ (i : Nat) (a : Av) (v : V), as[i]? = some a → vs[i]? = some v → AvAt K od F H v a := by
  induction h with
  | nil =>
    intro i a v e
    simp at e
  | cons h t ih =>
    intro i a v e1 e2
    cases i with
    | zero =>
      cases e1
      cases e2
      exact h
    | succ i => exact ih i a v e1 e2
theorem RsAll.av {Hb : Hp} {vs : List V} {rs : List Rs} (h : RsAll K od F B Hb H vs rs) : AvAll K od F H vs (rs.map Rs.av) := by
  induction h with
  | nil => exact .nil
  | cons h t ne ih =>
    refine .cons ?_ ih
    rename_i v r vs rs
    cases r with
    | da d => exact h
    | fr ds =>
      obtain ⟨a, e, l, _⟩ := h
      exact ⟨a, e, l⟩
    | ow ds =>
      obtain ⟨a, e, l, _⟩ := h
      exact ⟨a, e, l⟩
    | al ds => exact h
    | dw => exact h
def slots (N : List Str) (as : List Av) : List Sl := as.map Av.sl ++ List.replicate (N.length - as.length) .no
theorem fits_start {N : List Str} {vs : List V} {as : List Av} (dF : ∀ b, F b → H b ≠ none) (av : AvAll K od F H vs as) (cel : ∀ p, od = some p → H p.2 ≠ none) : Fits K od F (fun b => H b ≠ none) (slots N as) (start N vs) H := by
  have ln := av.len
  refine ⟨?_, fun i s v hs hv => ?_, fun i j a _ ho => ?_, fun b hb => hb, dF, cel⟩
  · unfold slots L2.start
    rw [List.length_append, List.length_append, List.length_map, List.length_map, List.length_replicate, List.length_replicate, ln]
  · unfold slots at hs
    unfold L2.start at hv
    rw [List.getElem?_append, List.length_map] at hs hv
    rw [ln] at hv
    by_cases hi : i < as.length
    · rw [if_pos hi, List.getElem?_map] at hs hv
      obtain ⟨a, ea, rfl⟩ := Option.map_eq_some_iff.mp hs
      obtain ⟨x, ex, rfl⟩ := Option.map_eq_some_iff.mp hv
      have at_ := av.get i a x ea ex
      cases a with
      | da d => exact ⟨x, rfl, at_⟩
      | li ds =>
        obtain ⟨b, rfl, l⟩ := at_
        exact ⟨b, rfl, l⟩
      | dw =>
        obtain ⟨p, e, rfl⟩ := at_
        exact ⟨p, e, rfl⟩
    · rw [if_neg hi] at hs
      have := List.eq_of_mem_replicate (List.mem_of_getElem? hs)
      rw [this]
      trivial
  · exfalso
    obtain ⟨ds, ho⟩ := ho
    unfold slots at ho
    rw [List.getElem?_append, List.length_map] at ho
    by_cases hi : i < as.length
    · rw [if_pos hi, List.getElem?_map] at ho
      obtain ⟨a, ea, e⟩ := Option.map_eq_some_iff.mp ho
      cases a <;> cases e
    · rw [if_neg hi] at ho
      have := List.eq_of_mem_replicate (List.mem_of_getElem? ho)
      cases this
/-- what a body must give -/
abbrev poOf (P : Rs → Nat → Prop) : Po := { nx := fun _ m => P (.da .none) m, rt := fun r m => ∃ r', r.out = some r' ∧ P r' m }
theorem run_body {t : TS} {N : List Str} {vs : List V} {as : List Av} {P : Rs → Nat → Prop} {Q : VK} (dF : ∀ b, F b → H b ≠ none) (gd : Gd od n H) (av : AvAll K od F H vs as) (cel : ∀ p, od = some p → H p.2 ≠ none) (h : wS K od t (slots N as) n (poOf P))
    (q : ∀ (v : V) (H' : Hp) (r : Rs) (n' : Nat) (F' : Addr → Prop), P r n' → Gr F H F' → (∀ b, F' b → H' b ≠ none) → Kx od H H' → Gd od n' H' → OutAt K F' H H' v r → Q v H') : t { nx := fun _ H' => Q .non H', rt := Q } (start N vs) H := by
  have gr : ∀ {F' : Addr → Prop}, GB F (fun b => H b ≠ none) F' → Gr F H F' := fun gb => ⟨gb.1, fun b z => (gb.2 b z).elim .inl fun nn => .inr (by
    cases e : H b with
    | none => rfl
    | some o => exact absurd (show H _ ≠ none by rw [e]; intro z; cases z) nn)⟩
  have kx : ∀ {H' : Hp}, Pr od F (fun b => H b ≠ none) H H' → Kx od H H' := fun {H'} p => by
    cases od with
    | none => exact fun b o e => p.2 b o (show H _ ≠ none by rw [e]; intro z; cases z) (fun _ z => by cases z) e
    | some w => exact fun b o nb e => p.2 b o (show H _ ≠ none by rw [e]; intro z; cases z) (fun _ z => by cases z; exact nb) e
  refine h F _ _ H (fits_start dF av cel) gd _ ⟨fun F' σ' H' Γ' n' gb hp f' g' p => ?_, fun F' v H' r n' gb hp a hd g' p => ?_, fun F' σ' H' Γ' n' gb hp => hp.elim, fun F' σ' H' Γ' n' gb hp => hp.elim⟩
  · exact q .non H' _ n' F' hp (gr gb) f'.domF (kx p) g' .non
  · obtain ⟨r', er, hp⟩ := hp
    cases r with
    | da d =>
      cases er
      exact q v H' _ n' F' hp (gr gb) hd (kx p) g' a
    | ow ds =>
      cases er
      obtain ⟨x, rfl, l, nf, nb⟩ := a
      refine q _ H' _ n' F' hp (gr gb) hd (kx p) g' ⟨x, rfl, l, ?_, nf⟩
      cases e : H x with
      | none => rfl
      | some o => exact absurd (show H _ ≠ none by rw [e]; intro z; cases z) nb
    | fr ds => cases er
    | al ds => cases er
    | dw => cases er
/-! calls -/
theorem AvAll.plain {vs : List V} {as : List Av} (h : AvAll K od F H vs as) (nd : ∀ a ∈ as, a ≠ .dw) : AvAll K none F H vs as := by
  induction h with
  | nil => exact .nil
  | cons h t ih =>
    rename_i v a vs as
    refine .cons ?_ (ih fun x hx => nd x (List.mem_cons_of_mem _ hx))
    cases a with
    | da d => exact h
    | li ds => exact h
    | dw => exact absurd rfl (nd _ List.mem_cons_self)
theorem AvAll.app {vs us : List V} {as bs : List Av} (h : AvAll K od F H vs as) (h2 : AvAll K od F H us bs) : AvAll K od F H (vs ++ us) (as ++ bs) := by
  induction h with
  | nil => exact h2
  | cons h t ih => exact .cons h ih
def noDw : List Rs → Bool
  | [] => true
  | .dw :: _ => false
  | _ :: rs => noDw rs
theorem noDw_av : ∀ {rs : List Rs}, noDw rs = true → ∀ a ∈ rs.map Rs.av, a ≠ .dw
  | [], _, a, h => nomatch h
  | r :: rs, e, a, h => by
    rw [List.map_cons] at h
    cases r with
    | dw => cases e
    | da d => exact (List.mem_cons.mp h).elim (fun z => by rw [z]; intro y; cases y) (noDw_av (rs := rs) e a)
    | fr d => exact (List.mem_cons.mp h).elim (fun z => by rw [z]; intro y; cases y) (noDw_av (rs := rs) e a)
    | ow d => exact (List.mem_cons.mp h).elim (fun z => by rw [z]; intro y; cases y) (noDw_av (rs := rs) e a)
    | al d => exact (List.mem_cons.mp h).elim (fun z => by rw [z]; intro y; cases y) (noDw_av (rs := rs) e a)
theorem w_call {T : Tr} {ta : TA} {E : XK} {dvs : List V} {das : List Av} {Q : Rs → Nat → Prop} (hd : ∀ F H, AvAll K none F H dvs das) (h : wA K od ta Γ n fun rs m => noDw rs = true ∧ T (rs.map Rs.av ++ das) fun r => Q r m) : wE K od (tCall (spD K T) dvs E ta) Γ n Q := by
  intro F B σ H f g R k
  refine h F B σ H f g _ fun vs H1 rs m F1 q o1 a1 => ?_
  obtain ⟨nd, hT⟩ := q
  refine ⟨F1, _, _, o1.f.domF, (a1.av.plain (noDw_av nd)).app (hd F1 H1), hT, fun v H' r F' hq gr dF' s a => ?_⟩
  have g' := o1.g.same s
  have o2 : Go K od F B Γ σ H F' H' m := ⟨o1.gr.trans gr o1.k o1.g, o1.k.trans (Same.kx s), g', o1.f.kg (Same.kx s) o1.g g' gr dF'⟩
  refine k v H' r m F' hq o2 ?_
  cases r with
  | da d => exact a
  | fr ds =>
    obtain ⟨x, e, l, nx, nf⟩ := a
    exact ⟨x, e, l, o1.k.none o1.g nx, nf, fun z => o1.f.dom x z nx⟩
  | ow ds => exact a.elim
  | al ds => exact a.elim
  | dw => exact a.elim
theorem ev_call {T : Tr} {ta : TA} {E : XK} {rs : List Rs} {z : Rs} (h : EvA K od ta Γ rs) (nd : noDw rs = true) (hT : ∀ P : Rs → Prop, P z → T (rs.map Rs.av) P) : Ev K od (tCall (spD K T) [] E ta) Γ z := fun n Q q => w_call (das := []) (fun _ _ => .nil) (h _ _ ⟨nd, by
  rw [List.append_nil]
  exact hT _ q⟩)
theorem ev_callD {T : Tr} {ta : TA} {E : XK} {dvs : List V} {das : List Av} {rs : List Rs} {z : Rs} (hd : ∀ F H, AvAll K none F H dvs das) (h : EvA K od ta Γ rs) (nd : noDw rs = true) (hT : ∀ P : Rs → Prop, P z → T (rs.map Rs.av ++ das) P) : Ev K od (tCall (spD K T) dvs E ta) Γ z := fun n Q q => w_call hd (h _ _ ⟨nd, hT _ q⟩)
/-- a call that draws -/
theorem w_callR {T : TrR} {ta : TA} {E : XK} {Q : Rs → Nat → Prop} (ho : od ≠ none) (h : wA K od ta Γ n fun rs m => T (rs.map Rs.av) m Q) : wE K od (tCall (spR K T) [] E ta) Γ n Q := by
  intro F B σ H f g R k
  refine h F B σ H f g _ fun vs H1 rs m F1 hT o1 a1 => ?_
  cases od with
  | none => exact absurd rfl ho
  | some p =>
    show spR K T (vs ++ []) H1 R E
    rw [List.append_nil]
    refine ⟨p, F1, _, m, _, o1.f.domF, o1.g, a1.av, hT, fun v H' r n' F' hq gr dF' kp d' a => ?_⟩
    have k' : Kx (some p) H1 H' := kp
    have g' : Gd (some p) n' H' := d'
    have o2 : Go K (some p) F B Γ σ H F' H' n' := ⟨o1.gr.trans gr o1.k o1.g, o1.k.trans k', g', o1.f.kg k' o1.g g' gr dF'⟩
    refine k v H' r n' F' hq o2 ?_
    cases r with
    | da d => exact a
    | fr ds =>
      obtain ⟨x, e, l, nx, nf⟩ := a
      exact ⟨x, e, l, o1.k.none o1.g nx, nf, fun z => o1.f.dom x z nx⟩
    | ow ds => exact a.elim
    | al ds => exact a.elim
    | dw => exact a.elim
end
/-! defs -/
section
variable {P : Program} {w : World} {K : PySem.W.Frag} {mg : Str → Option Value} {base : Heap} {x : Str} {st : Stmt} {k : Nat} {N ps : List Str}
theorem Df.knD {T : Tr} (D : Df K mg x st) (S : FnScope N ps (defScope st)) (hb : ∀ (kV doc pm : Value) (an : Option Addr) (cdv ct : Value) (us : List Value), us.length = ps.length → bindArgs (PySem.W.fnOf x x (defArgs st) (defBody st) (defScope st) .none kV doc pm an cdv ct) ⟨us, []⟩ = pure (ps.zip us))
    (len : ∀ as Q, T as Q → as.length = ps.length)
    (hbody : ∀ (f : Addr) (cdv : Value) (A : Around) (outer : List Env) (s : Shared) (H : Hp) (E : XK), A.guards = some [] → Room k (A.deeper (envOfC x (defScope st) s.heap.objs.size f cdv)) →
      ∃ t, PSs (cxOf CX0 P w K mg base N x (defScope st) f cdv A outer s H E) (defBody st) t ∧ ∀ as Q, T as Q → wS K none t (slots N as) 0 (poOf fun r _ => Q r)) : Kn P w K mg base x (k + 1) ps (spD K T) := by
  refine D.kn S hb (fun vs H Q E h => ?_) (fun f cdv A outer s H vs Q E gd hr h => ?_)
  · obtain ⟨F, as, R, _, av, hT, _⟩ := h
    rw [av.len]
    exact len as R hT
  · obtain ⟨F, as, R, dF, av, hT, q⟩ := h
    obtain ⟨t, ht, hw⟩ := hbody f cdv A outer s H E gd hr
    exact ⟨t, ht, run_body (od := none) (n := 0) dF trivial av (fun _ z => by cases z) (hw as R hT) fun v H' r n' F' hp gr dF' kx _ oa => q v H' r F' hp gr dF' kx oa⟩
theorem Df.knR {T : TrR} (D : Df K mg x st) (S : FnScope N ps (defScope st)) (hb : ∀ (kV doc pm : Value) (an : Option Addr) (cdv ct : Value) (us : List Value), us.length = ps.length → bindArgs (PySem.W.fnOf x x (defArgs st) (defBody st) (defScope st) .none kV doc pm an cdv ct) ⟨us, []⟩ = pure (ps.zip us))
    (len : ∀ as n Q, T as n Q → as.length = ps.length)
    (hbody : ∀ (f : Addr) (cdv : Value) (A : Around) (outer : List Env) (s : Shared) (H : Hp) (E : XK), A.guards = some [] → Room k (A.deeper (envOfC x (defScope st) s.heap.objs.size f cdv)) →
      ∃ t, PSs (cxOf CX0 P w K mg base N x (defScope st) f cdv A outer s H E) (defBody st) t ∧ ∀ p as n Q, T as n Q → wS K (some p) t (slots N as) n (poOf Q)) : Kn P w K mg base x (k + 1) ps (spR K T) := by
  refine D.kn S hb (fun vs H Q E h => ?_) (fun f cdv A outer s H vs Q E gd hr h => ?_)
  · obtain ⟨p, F, as, n, R, _, _, av, hT, _⟩ := h
    rw [av.len]
    exact len as n R hT
  · obtain ⟨p, F, as, n, R, dF, dr, av, hT, q⟩ := h
    obtain ⟨t, ht, hw⟩ := hbody f cdv A outer s H E gd hr
    refine ⟨t, ht, run_body (od := some p) dF dr av (fun q z => ?_) (hw p as n R hT) fun v H' r n' F' hp gr dF' kx g' oa => q v H' r n' F' hp gr dF' kx g' oa⟩
    cases z
    obtain ⟨a, l, u, cs, _, e2, _⟩ := dr
    rw [e2]
    intro y
    cases y
end
end Pb

namespace Pb
open PySem PySem.Spec PyProof.Rows L2 TL
/-! ### drawing -/
theorem Kn.imp {P : Program} {w : World} {K : PySem.W.Frag} {mg : Str → Option Value} {base : Heap} {x : Str} {k : Nat} {ps : List Str} {sp sp' : Sp} (N : Kn P w K mg base x k ps sp) (h : ∀ vs H Q E, sp' vs H Q E → sp vs H Q E) : Kn P w K mg base x k ps sp' := by
  obtain ⟨f, fd, kp, g, b, G⟩ := N
  exact ⟨f, fd, kp, g, b, fun vs H Q E z => G.len vs H Q E (h vs H Q E z), fun A outer s H args us vs Q E hg hr e0 hb r z => G.run A outer s H args us vs Q E hg hr e0 hb r (h vs H Q E z)⟩
def spNextC : Sp := fun vs H Q _ => ∃ (d c : Addr) (m : Int) (n : Nat), vs = [.ref d, .int m] ∧ DrC H d c n ∧ 0 < m ∧ m < 1073741824 ∧ n < 2 ^ 40 ∧
  ∀ (v : Int) (H' : Hp), 0 ≤ v → v < m → DrC H' d c (n + 1) → But d H H' → Q (.int v) H'
def spBeginC (K : PySem.W.Frag) : Sp := fun vs H Q _ => ∃ (a : Addr) (ns : List Int), vs = [.ref a] ∧ SqL K H a (ns.map V.int) ∧ ns.length ≤ 63 ∧
  ∀ H' d c, H c = none → H d = none → DrC H' d c 0 → (∀ b, b ≠ c → b ≠ d → H b ≠ none → H' b = H b) → Q (.ref d) H'
def trNext : TrR := fun as n Q => ∃ m : Int, as = [.dw, .da (.int m)] ∧ 0 < m ∧ m < 1073741824 ∧ n < 2 ^ 40 ∧ ∀ k : Int, 0 ≤ k → k < m → Q (.da (.int k)) (n + 1)
theorem spNext_imp {K : PySem.W.Frag} (vs : List V) (H : Hp) (Q : VK) (E : XK) (h : spR K trNext vs H Q E) : spNextC vs H Q E := by
  obtain ⟨p, F, as, n, P, dF, dr, av, ⟨m, rfl, m0, m1, hn, hq⟩, q⟩ := h
  cases av with
  | cons a1 av =>
    cases av with
    | cons a2 av =>
      cases av
      obtain ⟨p', e, rfl⟩ := a1
      cases e
      rw [Dk.int' a2]
      refine ⟨p.1, p.2, m, n, rfl, dr, m0, m1, hn, fun v H' v0 v1 d' b => ?_⟩
      have kp : Kp p.1 H H' := But.kp b
      exact q _ H' _ (n + 1) F (hq v v0 v1) (Gr.refl _ _) (fun b hb => Kx.some (od := some p) (m := n + 1) kp d' (dF b hb)) kp d' (.int v)
section
variable {K : PySem.W.Frag} {od : Md} {Γ : List Sl} {n : Nat}
theorem w_next {i : Nat} {t : TE} {E : XK} {Q : Rs → Nat → Prop} (ho : od ≠ none) (hi : Γ[i]? = some .dw) (h : wE K od t Γ n fun r n' => ∃ m : Int, r = .da (.int m) ∧ 0 < m ∧ m < 1073741824 ∧ n' < 2 ^ 40 ∧ ∀ k : Int, 0 ≤ k → k < m → Q (.da (.int k)) (n' + 1)) : wE K od (tCall (spR K trNext) [] E (tCons (tVar i) (tCons t tNil))) Γ n Q := by
  refine w_callR ho (w_cons (w_varD hi (w_cons (w_mono h fun r m hr => w_nil ?_))))
  obtain ⟨m', rfl, h1, h2, h3, h4⟩ := hr
  exact ⟨m', rfl, h1, h2, h3, h4⟩
theorem w_nextC {i : Nat} {m : Int} {E : XK} {Q : Rs → Nat → Prop} (ho : od ≠ none) (hi : Γ[i]? = some .dw) (hm : 0 < m ∧ m < 1073741824) (hn : n < 2 ^ 40) (h : ∀ k : Int, 0 ≤ k → k < m → Q (.da (.int k)) (n + 1)) : wE K od (tCall (spR K trNext) [] E (tCons (tVar i) (tCons (tC (.int m)) tNil))) Γ n Q :=
  w_next ho hi (ev_int.w ⟨m, rfl, hm.1, hm.2, hn, h⟩)
end
end Pb

namespace Pb
open PySem PySem.Spec PyProof.Rows L2 TL
def top (i : Nat) : Stmt := PySem.Challenge.pw_pathbook_k16_whole_what_legs_pass.main.body.getD i (.Pass ⟨0, 0, 0, 0⟩)
/-! ### the draw -/
abbrev sBegin : Stmt := top 26
abbrev sMixed : Stmt := top 27
abbrev sNext : Stmt := top 28
theorem scBegin : FnScope ["_law_script"] ["_law_script"] (defScope sBegin) := ⟨rfl, rfl, rfl, by decide +kernel, rfl, by decide +kernel, by decide +kernel⟩
theorem scMixed : FnScope ["_law_cell", "_law_k", "_law_number"] ["_law_cell", "_law_k"] (defScope sMixed) := ⟨rfl, rfl, rfl, by decide +kernel, rfl, by decide +kernel, by decide +kernel⟩
theorem scNext : FnScope ["_law_draw", "_law_many", "_law_found", "_law_cells", "_law_cell"] ["_law_draw", "_law_many"] (defScope sNext) := ⟨rfl, rfl, rfl, by decide +kernel, rfl, by decide +kernel, by decide +kernel⟩
section
variable {P : Program} {w : World} {K : PySem.W.Frag} {mg : Str → Option Value} {base : Heap} {f : Addr} {fd : FuncData}
theorem ok_mixed (F : FnP K "_law_mixed" sMixed f fd) : FnOk P w K mg base CX0 1 f fd ["_law_cell", "_law_k"] spMixed := by
  refine F.ok scMixed (fun vs H Q E h => ?_) (fun cdv A outer s H vs Q E hr h => ?_)
  · obtain ⟨c, k, rfl, _⟩ := h
    rfl
  · obtain ⟨c, k, rfl, h0, h1, q⟩ := h
    refine ⟨_, PSs.nox (pss_cons (ps_set (i := 2) scMixed.nd rfl (.inl rfl) (pe_op op_mod (pe_op op_add (pe_op op_add (pe_op op_add (pe_op op_mod (pv 0) pe_int)
        (pe_op op_mul (pe_op op_mul pe_int (pv 1)) (pv 1))) (pe_op op_mul pe_int (pv 1))) pe_int) pe_int))
      (pss_cons (ps_set (i := 2) scMixed.nd rfl (.inl rfl) (pe_op op_mod (pe_op op_mul (pe_op op_mod (pe_op op_mul (pv 2) (pv 2)) pe_int) (pv 2)) pe_int))
      (pss_one (ps_ret (pe_op op_fdiv (pe_op op_mod (pe_op op_mul (pv 2) (pe_op op_add pe_int (pe_op op_mul pe_int (pe_op op_mod (pv 1) pe_int)))) pe_int) pe_int))))), ?_⟩
    refine ⟨_, rfl, _, _, rfl, rfl, dv _, _, rfl, _, _, rfl, rfl, .inl ⟨by decide, by decide⟩, _, rfl, _, _, rfl, rfl, .inr ⟨by omega, by omega⟩, _, _, rfl, rfl, ?_⟩
    refine ⟨_, rfl, _, _, rfl, rfl, .inl ⟨by decide, by decide⟩, _, _, rfl, rfl, _, _, rfl, rfl, _, _, rfl, rfl, dv _, ?_⟩
    generalize (c % 1000000007 + 7919 * k * k + 31 * k + 7) = z
    have z0 : 0 ≤ z % 2147483647 := Int.emod_nonneg _ (by decide)
    have z1 : z % 2147483647 < 2147483647 := Int.emod_lt_of_pos _ (by decide)
    generalize z % 2147483647 = y at z0 z1
    refine ⟨_, rfl, _, rfl, _, _, rfl, rfl, .inl ⟨by omega, by omega⟩, _, _, rfl, rfl, dv _, _, rfl, _, _, rfl, rfl, .inr ⟨by omega, by omega⟩, _, _, rfl, rfl, dv _, ?_⟩
    generalize y * y % 2147483647 * y = x
    have x0 : 0 ≤ x % 2147483629 := Int.emod_nonneg _ (by decide)
    have x1 : x % 2147483629 < 2147483629 := Int.emod_lt_of_pos _ (by decide)
    generalize x % 2147483629 = u at x0 x1
    refine ⟨_, rfl, _, rfl, _, _, rfl, rfl, dv _, _, _, rfl, rfl, .inl ⟨by decide, by decide⟩, _, _, rfl, rfl, _, _, rfl, rfl, .inl ⟨by omega, by omega⟩, _, _, rfl, rfl, dv _, _, _, rfl, rfl, ⟨by decide, by decide⟩, ?_⟩
    exact q _

theorem ok_next {fM : Addr} {fdM : FuncData} (F : FnP K "_law_next" sNext f fd) (FM : FnP K "_law_mixed" sMixed fM fdM) (gM : mg "_law_mixed" = some (.ref fM)) (gl : mg "len" = none) :
    FnOk P w K mg base CX0 2 f fd ["_law_draw", "_law_many"] spNextC := by
  have GM : FnOk P w K mg base CX0 1 fM fdM ["_law_cell", "_law_k"] spMixed := ok_mixed FM
  have bM : Binds K fdM ["_law_cell", "_law_k"] [] := FM.bindsN fun _ _ _ _ _ _ us hl => match us, hl with | [_, _], _ => rfl
  refine F.ok scNext (fun vs H Q E h => ?_) (fun cdv A outer s H vs Q E hr h => ?_)
  · obtain ⟨d, c, m, n, rfl, _⟩ := h
    rfl
  · obtain ⟨d, c, m, n, rfl, ⟨a, l, u, cells, hd, hc, hne, hlen, a0, a1, u0, u1⟩, m0, m1, hn, q⟩ := h
    have hu := hu_of hr
    refine ⟨_, PSs.nox (pss_cons (ps_if (pt_cmpR op_gt (pe_dget hu (pv 0) pe_str (fun _ _ => rfl)) pe_int (nomark _))
        (pss_cons (ps_set (i := 2) scNext.nd rfl (.inl rfl) (pe_op op_mod (pe_dget hu (pv 0) pe_str (fun _ _ => rfl)) (pv 1)))
          (pss_cons (ps_dput hu (pv 0) pe_str (pe_op op_fdiv (pe_dget hu (pv 0) pe_str (fun _ _ => rfl)) (pv 1)) rfl) (pss_one (ps_ret (pv 2))))) pss_nil)
      (pss_cons (ps_set (i := 3) scNext.nd rfl (.inl rfl) (pe_dget hu (pv 0) pe_str (fun _ _ => rfl)))
      (pss_cons (ps_set (i := 4) scNext.nd rfl (.inl rfl) (pe_ix ix_list (pv 3) (pe_op op_mod (pe_dget hu (pv 0) pe_str (fun _ _ => rfl)) (pe_callB call_len_seq (by rfl) gl PySem.boot_len (pa_cons (pv 3) pa_nil))) (fun _ _ => rfl)))
      (pss_cons (ps_dput hu (pv 0) pe_str (pe_op op_add (pe_dget hu (pv 0) pe_str (fun _ _ => rfl)) pe_int) rfl)
      (pss_cons (ps_if (pw_and (pt_cmpR op_ge (pv 4) (pe_op op_pow pe_int pe_int) (nomark _)) (pw_and1 (pt_cmpR op_le (pe_dget hu (pv 0) pe_str (fun _ _ => rfl)) (pe_callB call_len_seq (by rfl) gl PySem.boot_len (pa_cons (pv 3) pa_nil)) (nomark _)))).pt
        (pss_cons (ps_dput hu (pv 0) pe_str (pe_op op_fdiv (pv 4) (pv 1)) rfl) (pss_one (ps_ret (pe_op op_mod (pv 4) (pv 1))))) pss_nil)
      (pss_cons (ps_dput hu (pv 0) pe_str (pe_op op_add (pe_dget hu (pv 0) pe_str (fun _ _ => rfl)) pe_int) rfl)
      (pss_one (ps_ret (pe_op op_mod (pe_call GM hr rfl gM FM.kp bM .nil pass0 (pa_cons (pe_call GM hr rfl gM FM.kp bM .nil pass0 (pa_cons (pv 4) (pa_cons (pe_dget hu (pv 0) pe_str (fun _ _ => rfl)) pa_nil))) (pa_cons (pe_dget hu (pv 0) pe_str (fun _ _ => rfl)) pa_nil))) (pv 1)))))))))), ?_⟩
    refine ⟨_, rfl, d, .int l, rfl, DGet.k (k := .inr "left") hd, _, _, rfl, rfl, _, rfl, ite2 (fun hl => ?_) (fun hl => ?_)⟩
    · refine ⟨_, rfl, d, .int l, rfl, DGet.k (k := .inr "left") hd, _, rfl, _, _, rfl, rfl, dv _ m0, ?_⟩
      refine ⟨_, rfl, d, .int l, rfl, DGet.k (k := .inr "left") hd, _, rfl, _, _, rfl, rfl, ⟨m0, m1⟩, _, rfl, d, _, rfl, DPut.k (k := .inr "left") hd (dr_len ..), ?_⟩
      refine ⟨_, rfl, q _ _ (Int.emod_nonneg _ (by omega)) (Int.emod_lt_of_pos _ m0) ⟨a, l / m, u, cells, ?_, ?_, hne, hlen, a0, by omega, u0, by omega⟩ fun b hb => upd_ne hb⟩
      · rw [upd_same, dp_left]
      · rw [upd_ne (ne_of hc hd (by intro z; cases z))]
        exact hc
    · have hcl : SqL K H c (cells.map V.int) := .of hc
      have hpos : 0 < cells.length := List.length_pos_iff.mpr hne
      have e0 : 0 ≤ a % (cells.length : Int) := Int.emod_nonneg _ (by omega)
      have e1 : a % (cells.length : Int) < cells.length := Int.emod_lt_of_pos _ (by omega)
      obtain ⟨j, ej⟩ : ∃ j : Nat, a % (cells.length : Int) = (j : Int) := ⟨_, (Int.toNat_of_nonneg e0).symm⟩
      have hj : j < cells.length := by omega
      have gj : atI (cells.map V.int) (a % ((cells.map V.int).length : Int)) = some (.int cells[j]) := by
        rw [List.length_map, ej]
        exact atI_nat (by rw [List.getElem?_map, List.getElem?_eq_getElem hj]; rfl)
      refine ⟨_, rfl, d, .ref c, rfl, DGet.k (k := .inr "cells") hd, ?_⟩
      refine ⟨_, rfl, _, rfl, d, .int a, rfl, DGet.k (k := .inr "at") hd, _, rfl, c, _, rfl, .inl hcl, _, _, rfl, rfl, dv _ (by rw [List.length_map]; omega), c, _, _, _, rfl, rfl, hcl, gj, ?_⟩
      generalize cells[j] = cell
      have h1d : (upd H d (.dK (drV c (a + 1) l u))) d = some (.dK (drV c (a + 1) l u)) := upd_same
      have h1c : (upd H d (.dK (drV c (a + 1) l u))) c = some (.lst (cells.map V.int)) := by
        rw [upd_ne (ne_of hc hd (by intro z; cases z))]
        exact hc
      refine ⟨_, rfl, d, .int a, rfl, DGet.k (k := .inr "at") hd, _, _, rfl, rfl, _, rfl, d, _, rfl, DPut.k (k := .inr "at") hd (dr_len ..), ?_⟩
      rw [dp_at]
      generalize hH : upd H d (.dK (drV c (a + 1) l u)) = H1 at h1d h1c
      have b1 : But d H H1 := fun b hb => by
        rw [← hH]
        exact upd_ne hb
      refine ⟨_, rfl, _, _, rfl, rfl, ⟨by decide, by decide, by decide⟩, _, _, rfl, rfl, _, rfl, ?_⟩
      have rest : ∀ D : Ends, D.rt = Q → (tSeq (sDPut (tVar 0) (tC (.str "used")) (tOp (rI0 fun i j => .int (i + j)) (tDGet (tVar 0) (tC (.str "used"))) (tC (.int 1))))
          (tRet (tOp (rI (fun _ j => 0 < j) fun i j => .int (i % j)) (tCall spMixed [] E0 (tCons (tCall spMixed [] E0 (tCons (tVar 4) (tCons (tDGet (tVar 0) (tC (.str "at"))) tNil))) (tCons (tDGet (tVar 0) (tC (.str "used"))) tNil))) (tVar 1)))) D
          [some (.ref d), some (.int m), none, some (.ref c), some (.int cell)] H1 := fun D eD => by
        refine ⟨_, rfl, d, .int u, rfl, DGet.k (k := .inr "used") h1d, _, _, rfl, rfl, _, rfl, d, _, rfl, DPut.k (k := .inr "used") h1d (dr_len ..), ?_⟩
        rw [dp_used]
        have h2d : (upd H1 d (.dK (drV c (a + 1) l (u + 1)))) d = some (.dK (drV c (a + 1) l (u + 1))) := upd_same
        refine ⟨_, rfl, _, rfl, d, .int (a + 1), rfl, DGet.k (k := .inr "at") h2d, _, _, rfl, by omega, by omega, fun v => ?_⟩
        refine ⟨_, rfl, d, .int (u + 1), rfl, DGet.k (k := .inr "used") h2d, _, _, rfl, by omega, by omega, fun v => ?_⟩
        refine ⟨_, rfl, _, _, rfl, rfl, dv _ m0, ?_⟩
        rw [eD]
        refine q _ _ (Int.emod_nonneg _ (by omega)) (Int.emod_lt_of_pos _ m0) ⟨a + 1, l, u + 1, cells, h2d, ?_, hne, hlen, by omega, by omega, by omega, by omega⟩ fun b hb => ?_
        · rw [upd_ne (ne_of h1c h1d (by intro z; cases z))]
          exact h1c
        · rw [upd_ne hb]
          exact b1 b hb
      refine ite2 (fun hA => ?_) (fun hA => ?_)
      · refine ⟨_, rfl, d, .int (a + 1), rfl, DGet.k (k := .inr "at") h1d, _, rfl, c, _, rfl, .inl (.of h1c), _, _, rfl, rfl, _, rfl, ite2 (fun hB => ?_) (fun hB => ?_)⟩
        · refine ⟨_, rfl, _, rfl, _, _, rfl, rfl, ⟨m0, m1⟩, _, rfl, d, _, rfl, DPut.k (k := .inr "left") h1d (dr_len ..), ?_⟩
          refine ⟨_, rfl, _, rfl, _, _, rfl, rfl, dv _ m0, q _ _ (Int.emod_nonneg _ (by omega)) (Int.emod_lt_of_pos _ m0) ⟨a + 1, cell / m, u, cells, ?_, ?_, hne, hlen, by omega, by omega, u0, by omega⟩ fun b hb => ?_⟩
          · rw [upd_same, dp_left]
          · rw [upd_ne (ne_of h1c h1d (by intro z; cases z))]
            exact h1c
          · rw [upd_ne hb]
            exact b1 b hb
        · exact rest _ rfl
      · exact iteF (rest _ rfl)
theorem ok_begin (F : FnP K "_law_begin" sBegin f fd) : FnOk P w K mg base CX0 1 f fd ["_law_script"] (spBeginC K) := by
  refine F.ok scBegin (fun vs H Q E h => ?_) (fun cdv A outer s H vs Q E hr h => ?_)
  · obtain ⟨a, ns, rfl, _⟩ := h
    rfl
  · obtain ⟨a, ns, rfl, hS, hlen, q⟩ := h
    refine ⟨_, PSs.nox (pss_one (ps_ret (pe_disp (pps_cons pe_str (pe_op op_catS (pv 0) (pe_lst (pa_cons pe_int pa_nil))) (pps_cons pe_str pe_int (pps_cons pe_str pe_int (pps_cons pe_str pe_int pps_nil)))) (by rfl) (by rfl) (fun z => by cases z) (by decide)))), ?_⟩
    refine fun d nd => ⟨_, rfl, (by decide), fun z nz => ?_⟩
    have dz : z ≠ d := fun e => by
      rw [e, upd_same] at nz
      cases nz
    have nz0 : H z = none := by
      rw [upd_ne dz] at nz
      exact nz
    have hA : SqL K (upd (upd H d (.dK [])) z (.lst [.int 0])) a (ns.map V.int) := (same_upd nz).seq ((same_upd nd).seq hS)
    refine ⟨a, z, _, _, rfl, rfl, hA, .of upd_same, ?_, fun c nc => ?_⟩
    · rw [List.length_map]
      exact Nat.le_of_lt (small1000 (by show ns.length + 1 ≤ 1000; omega))
    have cz : c ≠ z := fun e => by
      rw [e, upd_same] at nc
      cases nc
    have nc1 : upd H d (.dK []) c = none := by
      rw [upd_ne cz] at nc
      exact nc
    have cd : c ≠ d := fun e => by
      rw [e, upd_same] at nc1
      cases nc1
    have nc0 : H c = none := by
      rw [upd_ne cd] at nc1
      exact nc1
    refine ⟨?_, [(.inr "cells", .ref c), (.inr "at", .int 0), (.inr "left", .int 0), (.inr "used", .int 0)], rfl, (by show 4 ≤ 15; decide), ?_⟩
    · rw [upd_ne cd.symm, upd_ne dz.symm, upd_same]
    · refine q _ d c nc0 nd ⟨0, 0, 0, ns ++ [0], ?_, ?_, ?_, ?_, by decide, by decide, by decide, by decide⟩ fun b hc hd hb => ?_
      · rw [upd_same]
        rfl
      · rw [upd_ne cd, upd_same, List.map_append]
        rfl
      · simp
      · rw [List.length_append]
        show ns.length + 1 ≤ 100
        omega
      · have bz : b ≠ z := fun e => hb (by rw [e]; exact nz0)
        rw [upd_ne hd, upd_ne hc, upd_ne bz, upd_ne hd]
end
section
variable {P : Program} {w : World} {K : PySem.W.Frag} {mg : Str → Option Value} {base : Heap}
theorem kn_begin (D : Df K mg "_law_begin" sBegin) : Kn P w K mg base "_law_begin" 1 ["_law_script"] (spBeginC K) := by
  obtain ⟨f, fd, F, g⟩ := D
  exact ⟨f, fd, F.kp, g, F.bindsN fun _ _ _ _ _ _ us hl => match us, hl with | [_], _ => rfl, .of (ok_begin F)⟩
theorem kn_next (D : Df K mg "_law_next" sNext) (M : Df K mg "_law_mixed" sMixed) (B : BG mg) : Kn P w K mg base "_law_next" 2 ["_law_draw", "_law_many"] (spR K trNext) := by
  obtain ⟨f, fd, F, g⟩ := D
  obtain ⟨f2, fd2, F2, g2⟩ := M
  exact Kn.imp ⟨f, fd, F.kp, g, F.bindsN fun _ _ _ _ _ _ us hl => match us, hl with | [_, _], _ => rfl, .of (ok_next F F2 g2 B.len)⟩ spNext_imp
end
end Pb

namespace Pb
open PySem PySem.Spec PyProof.Rows L2 TL
/-! ### defs whose last argument may be left out, None then -/
def KnO (P : Program) (w : World) (K : PySem.W.Frag) (mg : Str → Option Value) (base : Heap) (x : Str) (k : Nat) (ps : List Str) (sp : Sp) : Prop :=
  ∃ (f : Addr) (fd : FuncData), PySem.W.keepIn K (.ref f) = true ∧ mg x = some (.ref f) ∧ (∃ ds, Vals ([] : List V) ds ∧ Binds K fd ps ds) ∧ (∃ ds, Vals [V.non] ds ∧ Binds K fd ps ds) ∧ FnG P w K mg base CX0 k f fd ps sp
def DfO (K : PySem.W.Frag) (mg : Str → Option Value) (x : Str) (st : Stmt) : Prop := ∃ f fd, FnD K x st [.non] f fd ∧ mg x = some (.ref f)
section
variable {X : Cx} {k : Nat} {ps : List Str} {sp : Sp} {x : Str} {p pos : Pos} {e : Expr} {es : List Expr} {t : TA}
theorem pe_knF (N : KnO X.prog X.w X.K X.mg X.base x k ps sp) (gd : X.A.guards = some []) (hr : Room k X.A) (hg : Gl X x) (ha : PA X (e :: es) t) (hdb : (x == ("__debug__" : Str)) = false := by decide)
    (he : starEach (e :: es) X.env = (false, eval e X.env) :: starEach es X.env := by rfl) (hpl : (backTo pos (starEach es X.env)).any (·.1) = false := by rfl) : PE X (.Call (.Name x p) (e :: es) [] pos) (tCall sp [] E0 t) := by
  obtain ⟨f, fd, kp, g, ⟨ds, hv, b⟩, _, G⟩ := N
  exact pe_callG G gd hr hg g kp b hv pass0 ha hdb he hpl
theorem pe_knO (N : KnO X.prog X.w X.K X.mg X.base x k ps sp) (gd : X.A.guards = some []) (hr : Room k X.A) (hg : Gl X x) (ha : PA X (e :: es) t) (hdb : (x == ("__debug__" : Str)) = false := by decide)
    (he : starEach (e :: es) X.env = (false, eval e X.env) :: starEach es X.env := by rfl) (hpl : (backTo pos (starEach es X.env)).any (·.1) = false := by rfl) : PE X (.Call (.Name x p) (e :: es) [] pos) (tCall sp [.non] E0 t) := by
  obtain ⟨f, fd, kp, g, _, ⟨ds, hv, b⟩, G⟩ := N
  exact pe_callG G gd hr hg g kp b hv pass0 ha hdb he hpl
end
section
variable {P : Program} {w : World} {K : PySem.W.Frag} {mg : Str → Option Value} {base : Heap} {x : Str} {st : Stmt} {k : Nat} {N ps : List Str}
theorem DfO.knD {T : Tr} (D : DfO K mg x st) (S : FnScope N ps (defScope st)) (m : Nat) (hm : ps.length = m + 1)
    (h1 : ∀ (T : Addr) (kV doc pm : Value) (an : Option Addr) (cdv ct : Value) (us its : List Value), us.length = m + 1 → its.length = 1 →
      ∃ k, bindArgs (PySem.W.fnOf x x (defArgs st) (defBody st) (defScope st) (.ref T) kV doc pm an cdv ct) ⟨us, []⟩ = seqItems? (.ref T) >>= k ∧ k (some its.toArray) = pure (ps.zip (us ++ its.drop 1)))
    (h0 : ∀ (T : Addr) (kV doc pm : Value) (an : Option Addr) (cdv ct : Value) (us its : List Value), us.length = m → its.length = 1 →
      ∃ k, bindArgs (PySem.W.fnOf x x (defArgs st) (defBody st) (defScope st) (.ref T) kV doc pm an cdv ct) ⟨us, []⟩ = seqItems? (.ref T) >>= k ∧ k (some its.toArray) = pure (ps.zip (us ++ its.drop 0)))
    (len : ∀ as Q, T as Q → as.length = ps.length)
    (hbody : ∀ (f : Addr) (cdv : Value) (A : Around) (outer : List Env) (s : Shared) (H : Hp) (E : XK), A.guards = some [] → Room k (A.deeper (envOfC x (defScope st) s.heap.objs.size f cdv)) →
      ∃ t, PSs (cxOf CX0 P w K mg base N x (defScope st) f cdv A outer s H E) (defBody st) t ∧ ∀ as Q, T as Q → wS K none t (slots N as) 0 (poOf fun r _ => Q r)) : KnO P w K mg base x (k + 1) ps (spD K T) := by
  obtain ⟨f, fd, F, g⟩ := D
  refine ⟨f, fd, F.kp, g, FunD.binds1 (ps := ps) F (m + 1) 1 (by simp) (by rw [hm]; rfl) h1, FunD.binds1 (ps := ps) F m 0 (by simp) (by rw [hm]; rfl) h0, fnG_of F S (fun vs H Q E h => ?_) (fun cdv A outer s H vs Q E gd hr h => ?_)⟩
  · obtain ⟨F, as, R, _, av, hT, _⟩ := h
    rw [av.len]
    exact len as R hT
  · obtain ⟨F, as, R, dF, av, hT, q⟩ := h
    obtain ⟨t, ht, hw⟩ := hbody f cdv A outer s H E gd hr
    exact ⟨t, ht, run_body (od := none) (n := 0) dF trivial av (fun _ z => by cases z) (hw as R hT) fun v H' r n' F' hp gr dF' kx _ oa => q v H' r F' hp gr dF' kx oa⟩
theorem av_non (F : Addr → Prop) (H : Hp) : AvAll K none F H [V.non] [.da .none] := .cons .non .nil
end
end Pb

namespace Pb
open PySem PySem.Spec PyProof.Rows L2 TL
/-! ### legs as data -/
inductive Lg
  | ride
  | leg (nm : Str) (i j : Int)
def legD : Lg → PyData
  | .ride => .tuple [.str "ride"]
  | .leg nm i j => .tuple [.str nm, .int i, .int j]
def LgOk : Lg → Prop
  | .ride => True
  | .leg nm i j => Sh 8 nm ∧ 0 ≤ i ∧ i ≤ 7 ∧ 0 ≤ j ∧ j ≤ 7
abbrev D3 := PyData × PyData × PyData
def bkD (ss : List Sec) (r : D3) : PyData := .tuple [.tuple (ss.map secD), r.1, r.2.1, r.2.2]
def clD : Option (List Str) → PyData
  | none => .none
  | some xs => .tuple (xs.map .str)
def endD : Option (Str × Str) → PyData
  | none => .none
  | some p => .tuple [.str p.1, .str p.2]
def secO : Option Sec → PyData
  | none => .none
  | some s => secD s
def hiI (i j : Int) : Int := if j > i then j else i
def secHas (nm : Str) (i j : Int) (s : Sec) : Bool := decide (s.nm = nm) && decide (hiI i j < (s.ms.length : Nat))
def inCl (nm : Str) : Option (List Str) → Bool
  | none => false
  | some xs => decide (nm ∈ xs)
def secFor (ss : List Sec) (l : Lg) (cl : Option (List Str)) : Option Sec := match l with
  | .ride => none
  | .leg nm i j => if inCl nm cl = true then none else ss.find? (secHas nm i j)
def endsOf (ss : List Sec) (l : Lg) (cl : Option (List Str)) : Option (Str × Str) := match l with
  | .ride => none
  | .leg nm i j => (secFor ss (.leg nm i j) cl).map fun s => (s.ms.getD i.toNat "", s.ms.getD j.toNat "")
def joined (x y : Option (Str × Str)) : Bool := match x, y with
  | some a, some b => decide (a.2 = b.1)
  | _, _ => false
def okPair (p : Option (Str × Str) × Option (Str × Str)) : Bool := match p with
  | (some a, some b) => decide (a.2 = b.1)
  | _ => true
def sound (es : List (Option (Str × Str))) : Bool := (es.zip es.tail).all okPair
def soundL (ss : List Sec) (ls : List Lg) (cl : Option (List Str)) : Bool := sound (ls.map fun l => endsOf ss l cl)
def cntL (ss : List Sec) (ls : List Lg) (cl : Option (List Str)) : List Lg := if soundL ss ls cl = true then ls.filter fun l => (secFor ss l cl).isSome else []
abbrev rideD : PyData := .tuple [.str "ride"]
def tr_reaches : Tr := fun as P => ∃ (s : Sec) (nm : Str) (i j : Int), as = [.da (secD s), .da (legD (.leg nm i j))] ∧ True ∧ P (.da (.bool (decide (hiI i j < (s.ms.length : Nat)))))
def tr_section_for : Tr := fun as P => ∃ (ss : List Sec) (r : D3) (l : Lg) (cl : Option (List Str)), as = [.da (bkD ss r), .da (legD l), .da (clD cl)] ∧ LgOk l ∧ P (.da (secO (secFor ss l cl)))
def tr_from_to : Tr := fun as P => ∃ (ss : List Sec) (r : D3) (l : Lg) (cl : Option (List Str)), as = [.da (bkD ss r), .da (legD l), .da (clD cl)] ∧ LgOk l ∧ P (.da (endD (endsOf ss l cl)))
def tr_are_joined : Tr := fun as P => ∃ x y : Option (Str × Str), as = [.da (endD x), .da (endD y)] ∧ True ∧ P (.da (.bool (joined x y)))
def tr_meets : Tr := fun as P => ∃ (ss : List Sec) (r : D3) (ls : List Lg) (cl : Option (List Str)), as = [.da (bkD ss r), .da (.tuple (ls.map legD)), .da (clD cl)] ∧ ((∀ l ∈ ls, LgOk l) ∧ ls.length ≤ 1000) ∧ P (.da (.bool (soundL ss ls cl)))
def tr_counted : Tr := fun as P => ∃ (ss : List Sec) (r : D3) (ls : List Lg) (cl : Option (List Str)), as = [.da (bkD ss r), .da (.tuple (ls.map legD)), .da (clD cl)] ∧ ((∀ l ∈ ls, LgOk l) ∧ ls.length ≤ 1000) ∧ P (.fr ((cntL ss ls cl).map legD))
abbrev s_reaches : Stmt := top 12
abbrev n_reaches : List Str := ["section", "leg"]
abbrev p_reaches : List Str := ["section", "leg"]
theorem sc_reaches : FnScope n_reaches p_reaches (defScope s_reaches) := ⟨rfl, rfl, rfl, by decide +kernel, rfl, by decide +kernel, by decide +kernel⟩
abbrev s_section_for : Stmt := top 15
abbrev n_section_for : List Str := ["book", "leg", "closed", "section"]
abbrev p_section_for : List Str := ["book", "leg", "closed"]
theorem sc_section_for : FnScope n_section_for p_section_for (defScope s_section_for) := ⟨rfl, rfl, rfl, by decide +kernel, rfl, by decide +kernel, by decide +kernel⟩
abbrev s_from_to : Stmt := top 16
abbrev n_from_to : List Str := ["book", "leg", "closed", "section", "marks"]
abbrev p_from_to : List Str := ["book", "leg", "closed"]
theorem sc_from_to : FnScope n_from_to p_from_to (defScope s_from_to) := ⟨rfl, rfl, rfl, by decide +kernel, rfl, by decide +kernel, by decide +kernel⟩
abbrev s_are_joined : Stmt := top 17
abbrev n_are_joined : List Str := ["one", "other"]
abbrev p_are_joined : List Str := ["one", "other"]
theorem sc_are_joined : FnScope n_are_joined p_are_joined (defScope s_are_joined) := ⟨rfl, rfl, rfl, by decide +kernel, rfl, by decide +kernel, by decide +kernel⟩
theorem ride_shp : SeqAt.shaped rideD = true := by decide +kernel
theorem leg_shp {l : Lg} (h : LgOk l) : SeqAt.shaped (legD l) = true := by
  cases l with
  | ride => exact ride_shp
  | leg nm i j => exact (Ly.tup (.cons (.str h.1) (.cons (.int i) (.cons (.int j) .nil)))).shp (by decide)
theorem leg_ride (nm : Str) (i j : Int) : PyData.eqv (legD (.leg nm i j)) rideD = false := by
  show (PyData.eqv (.str nm) (.str "ride") && false) = false
  rw [Bool.and_false]
section
variable {P : Program} {w : World} {K : PySem.W.Frag} {mg : Str → Option Value} {base : Heap}
theorem kn_reaches (D : Df K mg "reaches" s_reaches) (B : BG mg) : Kn P w K mg base "reaches" 1 p_reaches (spD K tr_reaches) := by
  refine D.knD sc_reaches (fun _ _ _ _ _ _ us hl => match us, hl with | [_, _], _ => rfl) (fun as Q h => by obtain ⟨s, nm, i, j, rfl, _⟩ := h; rfl) (fun f cdv A outer s H E gd hr => ?_)
  refine ⟨_, PSs.nox (pss_one (ps_ret (pe_cmpR op_lt (pe_callB (call_max2 rfl) rfl B.max bt_max (pa_cons (pe_ix ix_tup (pv 1) pe_int (fun _ _ => rfl)) (pa_cons (pe_ix ix_tup (pv 1) pe_int (fun _ _ => rfl)) pa_nil))) (pe_callB call_len_seq rfl B.len PySem.boot_len (pa_cons (pe_ix ix_tup (pv 0) pe_int (fun _ _ => rfl)) pa_nil)) (nomark _)))), fun as Q h => ?_⟩
  dsimp only [cxOf]
  obtain ⟨s, nm, i, j, rfl, _, q⟩ := h
  refine s_ret (Ev.w (ev_op (ev_cb (ev_cons (ev_op (ev_v rfl) ev_int (d_ixT rfl)) (ev_cons (ev_op (ev_v rfl) ev_int (d_ixT rfl)) ev_nil)) d_max2) (ev_cb (ev_cons (ev_op (ev_v rfl) ev_int (d_ixT rfl)) ev_nil) (d_len rfl)) d_ib) ⟨_, rfl, ?_⟩)
  rw [List.length_map]
  exact q
theorem kn_are_joined (D : Df K mg "are_joined" s_are_joined) (B : BG mg) : Kn P w K mg base "are_joined" 1 p_are_joined (spD K tr_are_joined) := by
  refine D.knD sc_are_joined (fun _ _ _ _ _ _ us hl => match us, hl with | [_, _], _ => rfl) (fun as Q h => by obtain ⟨x, y, rfl, _⟩ := h; rfl) (fun f cdv A outer s H E gd hr => ?_)
  refine ⟨_, PSs.nox (pss_one (ps_ret (pe_and (pe_cmp (pc_notN (pv 0))) (pe_and (pe_cmp (pc_notN (pv 1))) (pe_one (pe_cmpR op_eq (pe_ix ix_tup (pv 0) pe_int (fun _ _ => rfl)) (pe_ix ix_tup (pv 1) pe_int (fun _ _ => rfl)) (nomark _))))))), fun as Q h => ?_⟩
  dsimp only [cxOf]
  obtain ⟨x, y, rfl, _, q⟩ := h
  cases x with
  | none => exact s_ret (Ev.w (ev_andV (c := false) (ev_notN (ev_v rfl)) (fun hc => nomatch hc)) ⟨_, rfl, q⟩)
  | some x =>
    cases y with
    | none => exact s_ret (Ev.w (ev_andV (ev_notN (ev_v rfl)) (fun hc => ev_andV (c := false) (ev_notN (ev_v rfl)) (fun hc => nomatch hc))) ⟨_, rfl, q⟩)
    | some y => exact s_ret (Ev.w (ev_andV (ev_notN (ev_v rfl)) (fun hc => (ev_andV (ev_notN (ev_v rfl)) (fun hc => (ev_op (ev_op (ev_v rfl) ev_int (d_ixT rfl)) (ev_op (ev_v rfl) ev_int (d_ixT rfl)) d_eqS))))) ⟨_, rfl, q⟩)
end
end Pb

namespace Pb
open PySem PySem.Spec PyProof.Rows L2 TL
abbrev s_meets : Stmt := top 19
abbrev n_meets : List Str := ["book", "legs", "closed"]
abbrev p_meets : List Str := ["book", "legs", "closed"]
theorem sc_meets : FnScope n_meets p_meets (defScope s_meets) := ⟨rfl, rfl, rfl, by decide +kernel, rfl, by decide +kernel, by decide +kernel⟩
abbrev s_counted : Stmt := top 20
abbrev n_counted : List Str := ["book", "legs", "closed", "leg"]
abbrev p_counted : List Str := ["book", "legs", "closed"]
theorem sc_counted : FnScope n_counted p_counted (defScope s_counted) := ⟨rfl, rfl, rfl, by decide +kernel, rfl, by decide +kernel, by decide +kernel⟩
/-! ### the program's: which legs count -/
theorem filt {α : Type} (xs : List α) : (xs.filter fun _ => true) = xs := List.filter_eq_self.mpr fun _ _ => rfl
theorem find_first {α : Type} {p : α → Bool} : ∀ {xs : List α} {k : Nat} {s : α}, xs[k]? = some s → (∀ t ∈ xs.take k, p t = false) → p s = true → xs.find? p = some s
  | x :: xs, 0, s, e, _, h => by
    cases e
    rw [List.find?_cons_of_pos h]
  | x :: xs, k + 1, s, e, hn, h => by
    have hx : p x = false := hn x (by rw [List.take_succ_cons]; exact List.mem_cons_self)
    rw [List.find?_cons_of_neg (by rw [hx]; exact Bool.false_ne_true)]
    exact find_first (xs := xs) (k := k) e (fun t ht => hn t (by rw [List.take_succ_cons]; exact List.mem_cons_of_mem _ ht)) h
theorem EvT.eq {K : PySem.W.Frag} {od : Md} {t : TT} {Γ : List Sl} {b b' : Bool} (h : EvT K od t Γ b) (e : b = b') : EvT K od t Γ b' := by
  rw [← e]
  exact h
theorem Ev.eq {K : PySem.W.Frag} {od : Md} {t : TE} {Γ : List Sl} {b b' : Rs} (h : Ev K od t Γ b) (e : b = b') : Ev K od t Γ b' := by
  rw [← e]
  exact h
theorem find_no {α : Type} {p : α → Bool} {xs : List α} (h : ∀ t ∈ xs, p t = false) : xs.find? p = none := by
  rw [List.find?_eq_none]
  intro x hx
  rw [h x hx]
  exact Bool.false_ne_true
theorem at_str {ms : List Str} {i : Int} (h0 : 0 ≤ i) (h1 : i < (ms.length : Nat)) : atI (ms.map PyData.str) i = some (.str (ms.getD i.toNat "")) := by
  obtain ⟨k, rfl⟩ : ∃ k : Nat, i = (k : Int) := ⟨_, (Int.toNat_of_nonneg h0).symm⟩
  have hk : k < ms.length := by omega
  refine atI_nat ?_
  rw [List.getElem?_map, List.getElem?_eq_getElem hk, Int.toNat_natCast, List.getD_eq_getElem?_getD, List.getElem?_eq_getElem hk]
  rfl
theorem map_get {α β : Type} {f : α → β} {xs : List α} {k : Nat} {d : β} (h : (xs.map f)[k]? = some d) : ∃ a, xs[k]? = some a ∧ d = f a := by
  rw [List.getElem?_map] at h
  obtain ⟨a, ha, e⟩ := Option.map_eq_some_iff.mp h
  exact ⟨a, ha, e.symm⟩
theorem take_snoc {α : Type} {xs : List α} {k : Nat} {a : α} (h : xs[k]? = some a) {p : α → Prop} (h1 : ∀ t ∈ xs.take k, p t) (h2 : p a) : ∀ t ∈ xs.take (k + 1), p t := by
  intro t ht
  rw [List.take_add_one, h] at ht
  rcases List.mem_append.mp ht with z | z
  · exact h1 t z
  · have e : t = a := by simpa using z
    rw [e]
    exact h2
theorem cutD_tail {α : Type} (xs : List α) : cutD xs (some 1) none = xs.tail := by
  unfold cutD
  have e : HT.sIx xs.length 0 (some 1) = min 1 xs.length := HT.sIx_nat ..
  rw [e]
  cases xs with
  | nil => rfl
  | cons x r =>
    show (List.drop (min 1 (r.length + 1)) (x :: r)).take _ = r
    rw [Nat.min_eq_left (show 1 ≤ r.length + 1 by omega)]
    show r.take (r.length + 1 - 1) = r
    rw [Nat.add_sub_cancel, List.take_length]
theorem hi_le {i j m : Int} (h : hiI i j < m) : i < m ∧ j < m := by
  unfold hiI at h
  split at h <;> omega
theorem secFor_has {ss : List Sec} {nm : Str} {i j : Int} {cl : Option (List Str)} {s : Sec} (h : secFor ss (.leg nm i j) cl = some s) : secHas nm i j s = true := by
  unfold secFor at h
  dsimp only at h
  split at h
  · cases h
  · exact List.find?_some h
/-- over a list that is kept, and a new one -/
theorem f_zipKN {K : PySem.W.Frag} {od : Md} {Γ : List Sl} {t : TA} {ds es : List PyData} (h : EvA K od t Γ [.da (.list ds), .fr es]) : EvF K od (RZ.iZipA K t) Γ (zipD ds es) Γ := by
  intro n Q q F B σ H f g R k
  refine h n (fun r m => r = [.da (.list ds), .fr es] ∧ m = n) ⟨rfl, rfl⟩ F B σ H f g _ fun v H1 x m F1 e o1 a1 => ?_
  obtain ⟨rfl, rfl⟩ := e
  obtain ⟨u, w, rfl, a2, a3⟩ := a1.two
  obtain ⟨a, vs, rfl, e1, fa, t1⟩ := Dk.lst' a2
  obtain ⟨b, rfl, l, nb, _, _⟩ := a3
  have f1 := o1.f.grow l.ne_none fun i ho e => f.lstAt (ho.elim fun ds h => ⟨ds, .inl h⟩) e nb
  obtain ⟨us, e2, t2⟩ := l
  refine ⟨a, b, vs, us, rfl, .inl ⟨.of e1, .of e2, k _ H1 _ Γ m F1 _ q (o1.gb f) o1.k o1.g (fun _ z => .inl z) f1 ?_⟩⟩
  have wk : Walk (Itz K a b) (zipD ds es).length (fun H => SqL K H a vs ∧ SqL K H b us) (YPair (fun i => vs[i]?) (fun i => us[i]?)) := by rw [zipD_len]; exact walk_zip (K := K) (a := a) (b := b) (xs := vs) (ys := us) (by rw [t1.len, t2.len])
  refine ⟨_, _, wk, fun H2 p => ⟨.of (p.1.2 a vs fa e1), .of (p.lstAt o1.g (.inr rfl) e2)⟩, fun i d H2 x H3 ed p y => ?_⟩
  obtain ⟨d, e, g1, g2, rfl⟩ := zipD_get ed
  exact pairD y (fun u hu => (t1.fk p.1).getV hu g1) (fun u hu => (t2.fk p.1).getV hu g2)
section
variable {P : Program} {w : World} {K : PySem.W.Frag} {mg : Str → Option Value} {base : Heap}
theorem kn_section_for (D : Df K mg "section_for" s_section_for) (B : BG mg) (gRide : mg "RIDE" = some (.ref (He.ga K "RIDE"))) (hRide : ∀ F H, Dk K F H (.ref (He.ga K "RIDE")) rideD) (k_reaches : Kn P w K mg base "reaches" 1 p_reaches (spD K tr_reaches)) : Kn P w K mg base "section_for" 2 p_section_for (spD K tr_section_for) := by
  refine D.knD sc_section_for (fun _ _ _ _ _ _ us hl => match us, hl with | [_, _, _], _ => rfl) (fun as Q h => by obtain ⟨ss, r, l, cl, rfl, _⟩ := h; rfl) (fun f cdv A outer s H E gd hr => ?_)
  refine ⟨_, PSs.nox (pss_cons (ps_if (PW.pt (pw_or (pt_cmpR (op_eqD hr.units) (pv 1) (pe_glob (v := .ref (He.ga K "RIDE")) rfl gRide rfl) (nomark _)) (pw_or1 (PW.pt (pw_and (pt_cmp (pc_notN (pv 2))) (pw_and1 (pt_cmpR op_in_seq (pe_ix ix_tup (pv 1) pe_int (fun _ _ => rfl)) (pv 2) rfl))))))) (pss_one (ps_ret pe_non)) pss_nil) (pss_cons (ps_for PassesOwn.never rfl (pi_tup (pe_ix ix_tup (pv 0) pe_int (fun _ _ => rfl))) (pg_name (i := 3) sc_section_for.nd rfl (.inl rfl)) (pss_one (ps_if (PW.pt (pw_and (pt_cmpR op_eq (pe_ix ix_tup (pv 3) pe_int (fun _ _ => rfl)) (pe_ix ix_tup (pv 1) pe_int (fun _ _ => rfl)) (nomark _)) (pw_and1 (pt_val (pe_kn k_reaches gd (hr.mono (by decide)) rfl (pa_cons (pv 3) (pa_cons (pv 1) pa_nil))))))) (pss_one (ps_ret (pv 3))) pss_nil))) (pss_one (ps_ret pe_non)))), fun as Q h => ?_⟩
  dsimp only [cxOf]
  obtain ⟨ss, r, l, cl, rfl, lo, q⟩ := h
  cases l with
  | ride =>
    refine s_seq (s_ite (ev_or (c := true) (ev_test (ev_op (ev_v rfl) (ev_glob hRide) (d_eqD rfl rfl (ride_shp) (ride_shp)))) (fun hc => ?_)) (fun _ => s_ret (Ev.w ev_non ⟨_, rfl, q⟩)) (fun hc => ?_))
    · exact absurd hc (by decide +kernel)
    · rw [Bool.or_true] at hc
      cases hc
  | leg nm i j =>
    have tc : EvT K none (tAnd (tB (tNotN (tVar 2))) (tTest (tOp (rIn K false) (tOp (rIxT K) (tVar 1) (tC (.int 0))) (tVar 2)))) (slots n_section_for [.da (bkD ss r), .da (legD (.leg nm i j)), .da (clD cl)]) (inCl nm cl) := by
      cases cl with
      | none => exact ev_and (b := false) (c := false) (ev_tB (ev_notN (d := .none) (ev_v rfl))) (fun hc => by cases hc)
      | some xs => exact EvT.eq (ev_and (ev_tB (ev_notN (ev_v rfl))) (fun hc => (ev_test (ev_op (ev_op (ev_v rfl) ev_int (d_ixT rfl)) (ev_v rfl) (d_inS rfl))))) rfl
    refine s_seq (s_ite (ev_or (ev_test (ev_op (ev_v rfl) (ev_glob hRide) (d_eqD rfl rfl (leg_shp lo) (ride_shp)))) (fun _ => tc)) (fun hc => s_ret (Ev.w ev_non ⟨_, rfl, ?_⟩)) (fun hc => s_next ?_))
    · rw [leg_ride, Bool.false_or] at hc
      have e : secFor ss (.leg nm i j) cl = none := by
        unfold secFor
        dsimp only
        rw [if_pos hc]
      rw [e] at q
      exact q
    rw [leg_ride, Bool.false_or] at hc
    have e : secFor ss (.leg nm i j) cl = ss.find? (secHas nm i j) := by
      unfold secFor
      dsimp only
      rw [if_neg (by rw [hc]; exact Bool.false_ne_true)]
    rw [e] at q
    refine s_seq (s_for (own := [3]) ((f_tup (ev_op (ev_v rfl) ev_int (d_ixT rfl))) _ _ ⟨fun k Γ' _ => ∃ x, Γ' = [.da (bkD ss r), .da (legD (.leg nm i j)), .da (clD cl), x] ∧ ∀ s ∈ ss.take k, secHas nm i j s = false, ⟨.no, rfl, fun s hs => nomatch hs⟩, fun k d Γ' m hd hI => ?_, fun Γ' m hI => ?_⟩))
    · obtain ⟨x, rfl, hno⟩ := hI
      obtain ⟨s, hs, rfl⟩ := map_get hd
      refine g_name (by decide) (s_ite (ev_and (ev_test (ev_op (ev_op (ev_v rfl) ev_int (d_ixT rfl)) (ev_op (ev_v rfl) ev_int (d_ixT rfl)) d_eqS)) (fun _ => (ev_tB (ev_call (ev_cons (ev_v rfl) (ev_cons (ev_v rfl) ev_nil)) rfl (fun _ hp => ⟨_, _, _, _, rfl, trivial, hp⟩))))) (fun hc => s_ret (Ev.w (ev_v rfl) ⟨_, rfl, ?_⟩)) (fun hc => s_next ⟨_, rfl, take_snoc hs hno hc⟩))
      rw [find_first hs hno hc] at q
      exact q
    · obtain ⟨x, rfl, hno⟩ := hI
      rw [List.length_map, List.take_length] at hno
      refine s_ret (Ev.w ev_non ⟨_, rfl, ?_⟩)
      rw [find_no hno] at q
      exact q
theorem kn_from_to (D : DfO K mg "from_to" s_from_to) (B : BG mg) (k_section_for : Kn P w K mg base "section_for" 2 p_section_for (spD K tr_section_for)) : KnO P w K mg base "from_to" 3 p_from_to (spD K tr_from_to) := by
  refine D.knD sc_from_to 2 rfl (fun _ _ _ _ _ _ _ us its l1 l2 => match us, its, l1, l2 with | [_, _, _], [_], _, _ => ⟨_, rfl, rfl⟩) (fun _ _ _ _ _ _ _ us its l1 l2 => match us, its, l1, l2 with | [_, _], [_], _, _ => ⟨_, rfl, rfl⟩) (fun as Q h => by obtain ⟨ss, r, l, cl, rfl, _⟩ := h; rfl) (fun f cdv A outer s H E gd hr => ?_)
  refine ⟨_, PSs.nox (pss_cons (ps_set (i := 3) sc_from_to.nd rfl (.inl rfl) (pe_kn k_section_for gd (hr.mono (by decide)) rfl (pa_cons (pv 0) (pa_cons (pv 1) (pa_cons (pv 2) pa_nil))))) (pss_cons (ps_if (pt_cmp (pc_isN (pv 3))) (pss_one (ps_ret pe_non)) pss_nil) (pss_cons (ps_set (i := 4) sc_from_to.nd rfl (.inl rfl) (pe_ix ix_tup (pv 3) pe_int (fun _ _ => rfl))) (pss_one (ps_ret (pe_tup (pa_cons (pe_ix ix_tup (pv 4) (pe_ix ix_tup (pv 1) pe_int (fun _ _ => rfl)) (fun _ _ => rfl)) (pa_cons (pe_ix ix_tup (pv 4) (pe_ix ix_tup (pv 1) pe_int (fun _ _ => rfl)) (fun _ _ => rfl)) pa_nil)))))))), fun as Q h => ?_⟩
  dsimp only [cxOf]
  obtain ⟨ss, r, l, cl, rfl, lo, q⟩ := h
  refine s_seq (s_set (Ev.w (ev_call (ev_cons (ev_v rfl) (ev_cons (ev_v rfl) (ev_cons (ev_v rfl) ev_nil))) rfl (fun _ hp => ⟨_, _, _, _, rfl, (lo), hp⟩)) ?_))
  cases hs : secFor ss l cl with
  | none =>
    refine s_seq (s_ite (ev_tB (ev_isN (ev_v rfl))) (fun _ => s_ret (Ev.w ev_non ⟨_, rfl, ?_⟩)) (fun hc => by cases hc))
    have e : endsOf ss l cl = none := by
      cases l with
      | ride => rfl
      | leg nm i j =>
        unfold endsOf
        dsimp only
        rw [hs]
        rfl
    rw [e] at q
    exact q
  | some s =>
    cases l with
    | ride => cases hs
    | leg nm i j =>
      have hh := secFor_has hs
      unfold secHas at hh
      rw [Bool.and_eq_true, decide_eq_true_eq, decide_eq_true_eq] at hh
      obtain ⟨hi, hj⟩ := hi_le hh.2
      refine s_seq (s_ite (ev_tB (ev_isN (ev_v rfl))) (fun hc => by cases hc) (fun _ => s_next ?_))
      refine s_seq (s_set (Ev.w (ev_op (ev_v rfl) ev_int (d_ixT (d := .tuple (s.ms.map .str)) rfl)) ?_))
      refine s_ret (Ev.w (ev_tup (ev_cons (ev_op (ev_v rfl) (ev_op (ev_v rfl) ev_int (d_ixT rfl)) (d_ixT (at_str lo.2.1 hi))) (ev_cons (ev_op (ev_v rfl) (ev_op (ev_v rfl) ev_int (d_ixT rfl)) (d_ixT (at_str lo.2.2.2.1 hj))) ev_nil)) rfl (Nat.le_of_ble_eq_true rfl)) ⟨_, rfl, ?_⟩)
      unfold endsOf at q
      dsimp only at q
      rw [hs] at q
      exact q
end
end Pb

namespace Pb
open PySem PySem.Spec PyProof.Rows L2 TL
abbrev rAddS : R2 := fun x y H Q => ∃ i j, x = .str i ∧ y = .str j ∧ i.length + j.length ≤ sizeLine ∧ Q (.str (i ++ j)) H
/-! ### names -/
/-- one to eight small letters -/
def Nm (y : Str) : Prop := (∀ c ∈ tl y, 97 ≤ c ∧ c ≤ 122) ∧ 1 ≤ (tl y).length ∧ (tl y).length ≤ 8
theorem Nm.sh {y : Str} (h : Nm y) : Sh 8 y := ⟨fun c hc => Nat.lt_of_le_of_lt (h.1 c hc).2 (by decide), h.2.2⟩
def ltrS : Str := "abcdefghijklmnopqrstuvwxyz"
def ltN (i : Nat) : Nat := ltrS.cps.toList.getD i 0
theorem ltN_eq : ∀ i, i < 26 → ltN i = 97 + i := by decide +kernel
theorem at_ltrS {v : Int} (h0 : 0 ≤ v) (h1 : v < 26) : atI ltrS.cps.toList v = some (ltN v.toNat) := by
  obtain ⟨i, rfl⟩ : ∃ i : Nat, v = (i : Int) := ⟨_, (Int.toNat_of_nonneg h0).symm⟩
  have hl : ltrS.cps.toList.length = 26 := by decide +kernel
  refine atI_nat ?_
  unfold ltN
  rw [Int.toNat_natCast, List.getD_eq_getElem?_getD, List.getElem?_eq_getElem (by omega)]
  rfl
def twoL (k : Nat) : Str := ofL [ltN (k / 26), ltN (k % 26)]
def restL : List Str := (List.range 676).map twoL
theorem restL_nd : restL.Nodup := by
  unfold restL
  have inj : ∀ a ∈ List.range 676, ∀ b ∈ List.range 676, twoL a = twoL b → a = b := fun a ha b hb e => by
    rw [List.mem_range] at ha hb
    have e1 : tl (twoL a) = tl (twoL b) := congrArg tl e
    have e2 : [ltN (a / 26), ltN (a % 26)] = [ltN (b / 26), ltN (b % 26)] := e1
    injection e2 with e3 e4
    injection e4 with e5 _
    rw [ltN_eq _ (by omega), ltN_eq _ (by omega)] at e3 e5
    omega
  unfold List.Nodup
  rw [List.pairwise_map]
  refine List.Pairwise.imp_of_mem (fun {a b} ha hb hab e => hab (inj a ha b hb e)) (List.nodup_range (n := 676))
theorem restL_nm {y : Str} (h : y ∈ restL) : Nm y := by
  obtain ⟨k, hk, rfl⟩ := List.mem_map.mp h
  rw [List.mem_range] at hk
  refine ⟨fun c hc => ?_, Nat.le_of_ble_eq_true rfl, Nat.le_of_ble_eq_true rfl⟩
  have hc2 : c ∈ [ltN (k / 26), ltN (k % 26)] := hc
  simp only [List.mem_cons, List.not_mem_nil, or_false] at hc2
  rcases hc2 with e | e
  · rw [e, ltN_eq _ (by omega)]
    omega
  · rw [e, ltN_eq _ (by omega)]
    omega
theorem less_len {α : Type} [DecidableEq α] : ∀ (f l : List α), l.Nodup → l.length ≤ (l.filter fun x => !decide (x ∈ f)).length + f.length
  | [], l, _ => by
    have : (l.filter fun x => !decide (x ∈ ([] : List α))) = l := by
      rw [List.filter_eq_self]
      intro a _
      simp
    rw [this]
    exact Nat.le_add_right _ _
  | a :: f, l, nd => by
    have ih := less_len f (l.filter fun x => !decide (x = a)) (nd.filter _)
    have e : ((l.filter fun x => !decide (x = a)).filter fun x => !decide (x ∈ f)) = l.filter fun x => !decide (x ∈ a :: f) := by
      rw [List.filter_filter]
      refine List.filter_congr fun x _ => ?_
      by_cases h1 : x = a <;> by_cases h2 : x ∈ f <;> simp [h1, h2]
    rw [e] at ih
    have l1 : l.length ≤ (l.filter fun x => !decide (x = a)).length + 1 := by
      clear ih e
      induction l with
      | nil => exact Nat.zero_le _
      | cons b l ihl =>
        obtain ⟨nb, nl⟩ := List.nodup_cons.mp nd
        by_cases hb : b = a
        · subst hb
          have : (l.filter fun x => !decide (x = b)) = l := by
            rw [List.filter_eq_self]
            intro x hx
            have : x ≠ b := fun e => nb (by rw [← e]; exact hx)
            simp [this]
          rw [List.filter_cons, if_neg (by simp), this]
          exact Nat.le_refl _
        · rw [List.filter_cons, if_pos (by simp [hb]), List.length_cons, List.length_cons]
          have := ihl nl
          omega
    rw [List.length_cons]
    omega
/-- signs put together -/
theorem nm_join {cs : List Nat} (h : ∀ c ∈ cs, 97 ≤ c ∧ c ≤ 122) (h1 : 1 ≤ cs.length) (h8 : cs.length ≤ 8) : Nm (Txt.join "" (cs.map sg)) := by
  refine ⟨?_, ?_, ?_⟩
  · rw [join_signs]
    exact h
  · rw [join_signs]
    exact h1
  · rw [join_signs]
    exact h8
section
variable {K : PySem.W.Frag} {od : Md} {Γ : List Sl} {n : Nat}
/-- ''.join(xs), 'a b'.split(' ') -/
theorem w_join {t u : TE} {Q : Rs → Nat → Prop} (h : wE K od t Γ n fun x m => ∃ a : Str, x = .da (.str a) ∧ wE K od u Γ m fun y m' => ∃ ys : List Str, y.lst? = some (ys.map .str) ∧ (ys.map (·.length)).sum + ys.length * a.length ≤ 16777216 ∧ Q (.da (.str (Txt.join a ys))) m') :
    wE K od (tM1 (fun x xs H Q => ∃ a p, ∃ ys : List Str, x = .str a ∧ xs = [.ref p] ∧ (SqL K H p (ys.map V.str) ∨ SqT K H p (ys.map V.str)) ∧ (ys.map (·.length)).sum + ys.length * a.length ≤ 16777216 ∧ Q (.str (Txt.join a ys)) H) t u) Γ n Q := by
  intro F B σ H f g R k
  refine h F B σ H f g _ fun v H1 x m F1 hx o1 a1 => ?_
  obtain ⟨a, rfl, hu⟩ := hx
  rw [Dk.str' a1]
  refine ⟨⟨a, rfl⟩, hu F1 B σ H1 o1.f o1.g _ fun w H2 y m' F2 hy o2 a2 => ?_⟩
  obtain ⟨ys, hl, hs, q⟩ := hy
  obtain ⟨p, rfl, vs, e, t⟩ := a2.ls hl
  have ev := t.strs
  subst ev
  exact ⟨a, p, ys, rfl, rfl, .inl (.of e), hs, k _ H2 _ m' F2 q (o1.trans o2) (.str _)⟩
theorem ev_split {t u : TE} {a b : Str} (h : Ev K od t Γ (.da (.str a))) (h2 : Ev K od u Γ (.da (.str b))) (hb : (b.length == 0) = false) (ha : a.length + 2 ≤ sizeLine) {zs : List Str} (hz : Txt.split a b = zs) :
    Ev K od (tM1 (fun x xs H Q => ∃ a b, x = .str a ∧ xs = [.str b] ∧ (b.length == 0) = false ∧ a.length + 2 ≤ sizeLine ∧ rNewStrs (Txt.split a b) H Q) t u) Γ (.fr (zs.map .str)) := by
  subst hz
  intro n Q q F B σ H f g R k
  refine h n (fun r m => r = .da (.str a) ∧ m = n) ⟨rfl, rfl⟩ F B σ H f g _ fun v H1 x m F1 e o1 a1 => ?_
  obtain ⟨rfl, rfl⟩ := e
  rw [Dk.str' a1]
  refine ⟨⟨a, rfl⟩, h2 m (fun r m' => r = .da (.str b) ∧ m' = m) ⟨rfl, rfl⟩ F1 B σ H1 o1.f o1.g _ fun w H2 y m' F2 e o2 a2 => ?_⟩
  obtain ⟨rfl, rfl⟩ := e
  rw [Dk.str' a2]
  refine ⟨a, b, rfl, rfl, hb, ha, fun p np => ?_⟩
  have o12 := o1.trans o2
  obtain ⟨s, e⟩ := nxo (o := .lst ((Txt.split a b).map V.str)) np
  refine k _ _ _ m' F2 q (o12.same s) ⟨p, rfl, ⟨_, e, ?_⟩, o12.k.none o12.g np, fun z => o12.f.domF p z np, fun z => o12.f.dom p z np⟩
  have : ∀ (xs : List Str) (H' : Hp), DkAll K F2 H' (xs.map V.str) (xs.map .str) := fun xs H' => by
    induction xs with
    | nil => exact .nil
    | cons x r ih => exact .cons (.str x) ih
  exact this _ _
end
end Pb

namespace Pb
open PySem PySem.Spec PyProof.Rows L2 TL
section
variable {K : PySem.W.Frag} {od : Md} {Γ : List Sl} {n : Nat} {P P' : Po}
theorem s_mono {t : TS} (h : wS K od t Γ n P) (hn : ∀ Γ' m, P.nx Γ' m → P'.nx Γ' m) (hr : ∀ r m, P.rt r m → P'.rt r m) (hb : ∀ Γ' m, P.bk Γ' m → P'.bk Γ' m) (hc : ∀ Γ' m, P.ct Γ' m → P'.ct Γ' m) : wS K od t Γ n P' := fun F B σ H f g D e =>
  h F B σ H f g D ⟨fun F' a b c d gb q => e.nx F' a b c d gb (hn _ _ q), fun F' a b c d gb q => e.rt F' a b c d gb (hr _ _ q), fun F' a b c d gb q => e.bk F' a b c d gb (hb _ _ q), fun F' a b c d gb q => e.ct F' a b c d gb (hc _ _ q)⟩
/-- one behind the other, by what holds between -/
theorem s_seqJ {t u : TS} (J : List Sl → Nat → Prop) (h1 : wS K od t Γ n { P with nx := J }) (h2 : ∀ Γ' m, J Γ' m → wS K od u Γ' m P) : wS K od (tSeq t u) Γ n P := s_seq (s_mono h1 h2 (fun _ _ q => q) (fun _ _ q => q) (fun _ _ q => q))
theorem w_up {t : TE} {Q : Rs → Nat → Prop} {m : Nat} (l : n ≤ m) (h : wE K od t Γ m Q) : wE K od t Γ n Q := fun F B σ H f g R k => h F B σ H f (g.mono l) R k
theorem s_up {t : TS} {m : Nat} (l : n ≤ m) (h : wS K od t Γ m P) : wS K od t Γ n P := fun F B σ H f g D e => h F B σ H f (g.mono l) D e
theorem wT_up {t : TT} {Q : Bool → Nat → Prop} {m : Nat} (l : n ≤ m) (h : wT K od t Γ m Q) : wT K od t Γ n Q := fun F B σ H f g R k => h F B σ H f (g.mono l) R k
end
/-! picks -/
def pk2 {α : Type} (v : Int) (x y : α) : α := if v = 0 then x else y
def pk3 {α : Type} (v : Int) (x y z : α) : α := if v = 0 then x else if v = 1 then y else z
def pk4 {α : Type} (v : Int) (x y z w : α) : α := if v = 0 then x else if v = 1 then y else if v = 2 then z else w
theorem at2 {α : Type} {x y : α} {v : Int} (h0 : 0 ≤ v) (h1 : v < 2) : atI [x, y] v = some (pk2 v x y) := by
  have : v = 0 ∨ v = 1 := by omega
  rcases this with rfl | rfl <;> rfl
theorem at3 {α : Type} {x y z : α} {v : Int} (h0 : 0 ≤ v) (h1 : v < 3) : atI [x, y, z] v = some (pk3 v x y z) := by
  have : v = 0 ∨ v = 1 ∨ v = 2 := by omega
  rcases this with rfl | rfl | rfl <;> rfl
theorem at4 {α : Type} {x y z w : α} {v : Int} (h0 : 0 ≤ v) (h1 : v < 4) : atI [x, y, z, w] v = some (pk4 v x y z w) := by
  have : v = 0 ∨ v = 1 ∨ v = 2 ∨ v = 3 := by omega
  rcases this with rfl | rfl | rfl | rfl <;> rfl
theorem pk3_int (v x y z : Int) : pk3 v (PyData.int x) (.int y) (.int z) = .int (pk3 v x y z) := by
  unfold pk3
  split
  · rfl
  · split <;> rfl
theorem at3i {x y z v : Int} (h0 : 0 ≤ v) (h1 : v < 3) : atI [PyData.int x, .int y, .int z] v = some (.int (pk3 v x y z)) := by
  rw [at3 h0 h1, pk3_int]
theorem pk3_in {P : Int → Prop} {v x y z : Int} (h1 : P x) (h2 : P y) (h3 : P z) : P (pk3 v x y z) := by
  unfold pk3
  split
  · exact h1
  · split
    · exact h2
    · exact h3
/-- what stands at a drawn place -/
theorem at_any {α : Type} {xs : List α} {v : Int} (h0 : 0 ≤ v) (h1 : v < (xs.length : Nat)) : ∃ x, x ∈ xs ∧ atI xs v = some x := by
  obtain ⟨j, rfl⟩ : ∃ j : Nat, v = (j : Int) := ⟨_, (Int.toNat_of_nonneg h0).symm⟩
  have hj : j < xs.length := by omega
  exact ⟨xs[j], List.getElem_mem hj, atI_nat (List.getElem?_eq_getElem hj)⟩
theorem at_map {α β : Type} {f : α → β} {xs : List α} {v : Int} {a : α} (h : atI xs v = some a) : atI (xs.map f) v = some (f a) := by
  unfold L2.atI at h ⊢
  rw [List.length_map]
  cases e : ixN xs.length v with
  | none =>
    rw [e] at h
    cases h
  | some j =>
    rw [e] at h
    have h' : xs[j]? = some a := h
    show (xs.map f)[j]? = some (f a)
    rw [List.getElem?_map, h']
    rfl
/-- the last one -/
theorem at_last {α : Type} (xs : List α) (x : α) : atI (xs ++ [x]) (-1) = some x := by
  unfold L2.atI
  have e : ixN (xs ++ [x]).length (-1) = some xs.length := by
    unfold ixN
    rw [List.length_append, if_neg (by decide), if_pos (by show -((xs.length + 1 : Nat) : Int) ≤ -1; omega)]
    congr 1
    show (-1 + ((xs.length + 1 : Nat) : Int)).toNat = xs.length
    omega
  rw [e]
  show (xs ++ [x])[xs.length]? = some x
  rw [List.getElem?_append_right (Nat.le_refl _), Nat.sub_self]
  rfl
end Pb

namespace Pb
open PySem PySem.Spec PyProof.Rows L2 TL
/-! ### several names at once -/
def setG (Γ : List Sl) : List Nat → List Rs → List Sl
  | i :: is, r :: rs => setG (Γ.set i r.sl) is rs
  | _, _ => Γ
def setV (σ : L2.St) : List Nat → List V → L2.St
  | i :: is, v :: vs => setV (σ.set i (some v)) is vs
  | _, _ => σ
section
variable {K : PySem.W.Frag} {od : Md} {F B : Addr → Prop} {H Hb : Hp}
theorem Fits.setAll : ∀ {vs : List V} {rs : List Rs} (is : List Nat) {Γ : List Sl} {σ : L2.St}, RsAll K od F B Hb H vs rs → Fits K od F B Γ σ H → (∀ (k : Nat) es a, rs[k]? = some (.fr es) → vs[k]? = some (.ref a) → ∀ j, LstS Γ j → σ[j]? ≠ some (some (.ref a))) → Fits K od F B (setG Γ is rs) (setV σ is vs) H
  | _, _, [], Γ, σ, h, f, _ => by
    cases h <;> exact f
  | _, _, i :: is, Γ, σ, .nil, f, _ => f
  | v :: vs, r :: rs, i :: is, Γ, σ, .cons h t ne, f, hs => by
    have f1 : Fits K od F B (Γ.set i r.sl) (σ.set i (some v)) H := by
      cases r with
      | da d => exact f.setD h
      | fr ds =>
        obtain ⟨x, rfl, l, z, na, nb⟩ := h
        exact f.set ⟨x, rfl, l, na, nb⟩ (fun y e _ j _ hl e2 => by
          cases e
          exact hs 0 ds _ rfl rfl j hl e2) (fun _ _ z => by obtain ⟨_, z⟩ := z; cases z)
      | ow ds => exact f.setN
      | al ds => exact f.setN
      | dw =>
        obtain ⟨p, e, rfl⟩ := h
        exact f.set ⟨p, e, rfl⟩ (fun _ _ z => by obtain ⟨_, z⟩ := z; cases z) (fun _ _ z => by obtain ⟨_, z⟩ := z; cases z)
    refine Fits.setAll is t f1 fun k es a e1 e2 j hl e3 => ?_
    by_cases hj : i = j
    · subst hj
      have hil : i < Γ.length := by
        obtain ⟨es', hl⟩ := hl
        rcases hl with hl | hl
        · have := (List.getElem?_eq_some_iff.mp hl).1
          rw [List.length_set] at this
          exact this
        · have := (List.getElem?_eq_some_iff.mp hl).1
          rw [List.length_set] at this
          exact this
      rw [List.getElem?_set_self (by rw [← f.len]; exact hil)] at e3
      cases e3
      obtain ⟨es', hl⟩ := hl
      rw [List.getElem?_set_self hil] at hl
      cases r with
      | fr ds => exact ne ds rfl k es e1 e2
      | da d => rcases hl with hl | hl <;> cases hl
      | ow d => rcases hl with hl | hl <;> cases hl
      | al d => rcases hl with hl | hl <;> cases hl
      | dw => rcases hl with hl | hl <;> cases hl
    · rw [List.getElem?_set_ne hj] at e3
      obtain ⟨es', hl⟩ := hl
      rw [List.getElem?_set_ne hj] at hl
      exact hs (k + 1) es a e1 e2 j ⟨es', hl⟩ e3
end
section
variable {K : PySem.W.Frag} {od : Md} {Γ : List Sl} {n : Nat} {P : Po}
def gNames : List Nat → TGs
  | [] => gNil
  | i :: is => gCons (gName i) (gNames is)
theorem gNames_go : ∀ (is : List Nat) (vs : List V) (σ : L2.St) (H : Hp) (k : L2.St → Hp → Prop), is.length = vs.length → k (setV σ is vs) H → gNames is vs σ H k
  | [], [], σ, H, k, _, h => ⟨rfl, h⟩
  | i :: is, v :: vs, σ, H, k, e, h => ⟨v, vs, rfl, gNames_go is vs _ H k (Nat.succ.inj e) h⟩
/-- a, b, .. = x, y, .. by way of a tuple -/
theorem s_unp {ta : TA} {m : Nat} (is : List Nat) (hm : is.length = m) (h : wA K od ta Γ n fun rs m' => rs.length = m ∧ m ≤ 100 ∧ P.nx (setG Γ is rs) m') : wS K od (tAsg (tTup ta) (gTup K m (gNames is))) Γ n P := by
  intro F B σ H f g D e
  refine h F B σ H f g _ fun vs H1 rs m' F1 hr o1 a1 => ?_
  obtain ⟨hl, h100, hp⟩ := hr
  have lv : vs.length = rs.length := by
    have := a1.av.len
    rw [List.length_map] at this
    exact this
  refine ⟨?_, fun p np => ?_⟩
  · rw [lv, hl]
    exact Nat.le_of_lt (len20k (by omega))
  obtain ⟨s, ep⟩ := nxo (o := .tup vs) np
  have o2 := o1.same s
  refine ⟨p, vs, rfl, .of ep, by rw [lv, hl], gNames_go is vs σ _ _ (by rw [lv, hl, hm]) ?_⟩
  refine e.nx F1 _ _ _ _ (o2.gb f) hp (Fits.setAll is (a1.step (Gr.refl _ _) (Same.kx s) o1.g) o2.f fun k es a e1 e2 j hl2 e3 => ?_) o2.g (o2.k.pr g)
  exact f.lstAt hl2 e3 (a1.frNone k es a e1 e2)
/-- over a list that is kept -/
theorem f_lstK {t : TE} {ds : List PyData} (h : Ev K od t Γ (.da (.list ds))) : EvF K od (iList K t) Γ ds Γ := by
  intro n Q q F B σ H f g R k
  refine h n (fun r m => r = .da (.list ds) ∧ m = n) ⟨rfl, rfl⟩ F B σ H f g _ fun v H1 x m F1 e o1 a1 => ?_
  obtain ⟨rfl, rfl⟩ := e
  obtain ⟨a, vs, rfl, ea, fa, t⟩ := Dk.lst' a1
  refine ⟨a, rfl, ⟨_, .of ea⟩, k _ H1 ds Γ m F1 B q (o1.gb f) o1.k o1.g (fun _ z => z) o1.f ?_⟩
  have w : Walk (Itl K a) ds.length (fun H => SqL K H a vs) (YAt vs) := by rw [← t.len]; exact walk_list (K := K) (a := a) (xs := vs)
  refine ⟨_, _, w, fun H2 p => .of (p.1.2 a vs fa ea), fun i d H2 x H3 ed p y => ?_⟩
  obtain ⟨rfl, gx⟩ := y
  obtain ⟨v, gv, dv⟩ := t.get i d ed
  rw [gv] at gx
  cases gx
  exact ⟨Same.refl _, dv.fk p.1⟩
end
end Pb

namespace Pb
open PySem PySem.Spec PyProof.Rows L2 TL
theorem bt_sorted : bootBuiltins "sorted" = some (.builtin "sorted") := by decide +kernel
theorem bt_any : bootBuiltins "any" = some (.builtin "any") := by decide +kernel
theorem bt_all : bootBuiltins "all" = some (.builtin "all") := by decide +kernel
theorem bt_abs : bootBuiltins "abs" = some (.builtin "abs") := by decide +kernel
/-- the built-ins are what they were, more of them -/
structure BW (mg : Str → Option Value) : Prop extends BG mg where
  any : mg "any" = none
section
variable {K : PySem.W.Frag} {od : Md} {Γ : List Sl} {n : Nat}
theorem dkStrs {F : Addr → Prop} {H : Hp} (xs : List Str) : DkAll K F H (xs.map V.str) (xs.map .str) := by
  induction xs with
  | nil => exact .nil
  | cons x r ih => exact .cons (.str x) ih
/-- sorted(xs) of texts -/
theorem w_sortS {t : TE} {Q : Rs → Nat → Prop} (h : wE K od t Γ n fun x m => ∃ xs : List Str, x.lst? = some (xs.map .str) ∧ xs.length < 64 ∧ ∀ ys : List Str, ys.Perm xs → sortedS ys = true → Q (.fr (ys.map .str)) m) : wE K od (tCB (rSortedS K) (tCons t tNil)) Γ n Q := by
  intro F B σ H f g R k
  refine h F B σ H f g _ fun v H1 x m F1 hx o1 a1 => ?_
  obtain ⟨xs, hl, h64, q⟩ := hx
  obtain ⟨a, rfl, vs, e, t⟩ := a1.ls hl
  have ev := t.strs
  subst ev
  refine ⟨a, xs, rfl, .of e, h64, fun ys p pm so np => ?_⟩
  obtain ⟨s, ep⟩ := nxo (o := .lst (ys.map V.str)) np
  exact k _ _ _ m F1 (q ys pm so) (o1.same s) ⟨p, rfl, ⟨_, ep, dkStrs ys⟩, o1.k.none o1.g np, fun z => o1.f.domF p z np, fun z => o1.f.dom p z np⟩
/-- what a comprehension walks over: a list that isn't told -/
theorem i_lstW {t : TE} {Q : List PyData → Nat → Prop} (h : wE K od t Γ n fun x m => ∃ ds, x.lst? = some ds ∧ Q ds m) : wI K od (iList K t) Γ n Q := by
  intro F B σ H f g R k
  refine h F B σ H f g _ fun v H1 x m F1 hx o1 a1 => ?_
  obtain ⟨ds, hl, q⟩ := hx
  obtain ⟨a, rfl, vs, e, t⟩ := a1.ls hl
  exact ⟨a, rfl, ⟨_, .of e⟩, k _ H1 ds m F1 q o1 (walkD_lst o1.g trivial e t)⟩
theorem wT_mono {t : TT} {Q Q' : Bool → Nat → Prop} (h : wT K od t Γ n Q) (q : ∀ b m, Q b m → Q' b m) : wT K od t Γ n Q' := fun F B σ H f g R k => h F B σ H f g R fun b H' m F' hq => k b H' m F' (q b m hq)
end
end Pb

namespace Pb
open PySem PySem.Spec PyProof.Rows L2 TL
/-! ### zip(a, b, strict=True) of tuples of one length -/
section
variable {prog : Program} {w : World} {A : Around} {E : Value → Shared → Prop} {s : Shared}
abbrev ZSt (h : Heap) (z ti tO : Addr) (fl : Value) : Prop :=
  h.get? z = some { cls := .type "zip", dict := none, data := .fields #[fl, .bool false, .bool true, .ref ti, .ref tO], slots := #[] }
theorem noe_item {u l : Addr} {i : Nat} {xs : Array Value} {x : Value} {Q : Option Value → Shared → Prop} (h1 : s.heap.IsTupleIter u l i) (h2 : s.heap.IsTuple l xs) (hx : xs[i]? = some x)
    (q : ∀ h', h'.IsTupleIter u l (i + 1) → Heap.SameBut u s.heap h' → Q (some x) { s with heap := h' }) : wpAny (model prog w) A (Builtin.SmallTypes.nextOrEnd (.ref u)) Q E s := by
  unfold Builtin.SmallTypes.nextOrEnd
  exact wpAny_bind (wpAny_attempt (RZ.nextOf_tuple_item h1 h2 hx fun h' a b => wpAny_pure (q h' a b)))
theorem noe_end {u l : Addr} {i : Nat} {xs : Array Value} {Q : Option Value → Shared → Prop} (hh : A.handled = none) (h1 : s.heap.IsTupleIter u l i) (h2 : s.heap.IsTuple l xs) (hx : xs[i]? = none)
    (q : ∀ h', Heap.ExtBut u s.heap h' → Q none { s with heap := h' }) : wpAny (model prog w) A (Builtin.SmallTypes.nextOrEnd (.ref u)) Q E s := by
  unfold Builtin.SmallTypes.nextOrEnd
  refine wpAny_bind (wpAny_attempt (RZ.nextOf_tuple_end hh h1 h2 hx fun h' e hk he => ?_))
  obtain ⟨oe, hoe, hce⟩ := he
  refine wpAny_bind (wpAny_isInstance (T := "StopIteration") (b := true) ⟨oe, hoe, hce⟩ isSubtype_stop ?_)
  exact wpAny_pure (q h' hk)
theorem zs_item {z ti tO i1 i2 l1 l2 : Addr} {k : Nat} {xs ys : Array Value} {x y a b : Value} {Q : Value → Shared → Prop} (D : ZipApart z ti tO i1 i2 l1 l2) (hz : ZSt s.heap z ti tO .none) (hti : IsPair s.heap ti (.ref i1) (.ref i2)) (hto : IsPair s.heap tO a b)
    (h1 : s.heap.IsTupleIter i1 l1 k) (h2 : s.heap.IsTupleIter i2 l2 k) (t1 : s.heap.IsTuple l1 xs) (t2 : s.heap.IsTuple l2 ys) (hx : xs[k]? = some x) (hy : ys[k]? = some y)
    (q : ∀ h', ZSt h' z ti tO (rawInt s.heap.objs.size) → IsPair h' tO x y → h'.IsTupleIter i1 l1 (k + 1) → h'.IsTupleIter i2 l2 (k + 1) → IsPair h' s.heap.objs.size x y → h'.objs.size = s.heap.objs.size + 1 →
      (∀ c o, c ≠ z → c ≠ tO → c ≠ i1 → c ≠ i2 → s.heap.get? c = some o → h'.get? c = some o) → Q (.ref s.heap.objs.size) { s with heap := h' }) :
    wpAny (model prog w) A (Builtin.«zip.__next__» ⟨[.ref z], []⟩) (fun fin s' => ∃ v, fin = .done (.ret v) ∧ Q v s') E s := by
  show wpAny _ _ (field (.ref z) 2 >>= _) _ _ _
  refine wpAny_bind (wpAny_field hz rfl (x := .bool true) rfl ?_)
  show wpAny _ _ (field (.ref z) 3 >>= _) _ _ _
  refine wpAny_bind (wpAny_field hz rfl (x := .ref ti) rfl (wpAny_bind (wpAny_seqItems hti rfl ?_)))
  show wpAny _ _ (Builtin.SmallTypes.ownedTupleIsFree (.ref z) >>= _) _ _ _
  refine wpAny_bind ?_
  unfold Builtin.SmallTypes.ownedTupleIsFree
  refine wpAny_bind (wpAny_field hz rfl (x := .none) rfl (wpAny_pure ?_))
  simp only [if_true]
  refine wpAny_bind (wpAny_rule (wpAny_bind (wpAny_field hz rfl (x := .ref tO) rfl (wpAny_bind (wpAny_setField_rec hz (by simp) fun g1 z1 b1 => ?_)))))
  replace z1 : ZSt g1 z ti tO .ellipsis := z1
  refine wpAny_bind ?_
  simp only [List.zipIdx_cons, List.zipIdx_nil, List.forIn_cons, List.forIn_nil]
  refine wpAny_bind (wpAny_bind (wpAny_onRaise ?_))
  show wpAny _ _ (Builtin.SmallTypes.nextOrEnd (.ref i1)) _ _ _
  refine noe_item (h1.extBut b1.extBut D.i1z) (t1.extBut b1.extBut D.l1z) hx fun g2 j2 b2 => ?_
  have o2 : IsPair g2 tO a b := b2.extBut _ _ D.TOi1 (b1.extBut _ _ D.TOz hto)
  refine wpAny_bind (wpAny_seqItems o2 rfl (wpAny_bind (wpAny_updateSeq_pair o2 fun g3 o3 b3 => ?_)))
  replace o3 : IsPair g3 tO x b := o3
  refine wpAny_bind (wpAny_letGo (wpAny_pure (wpAny_bind (wpAny_bind (wpAny_onRaise ?_)))))
  show wpAny _ _ (Builtin.SmallTypes.nextOrEnd (.ref i2)) _ _ _
  refine noe_item (((h2.extBut b1.extBut D.i2z).extBut b2.extBut D.i12.symm).extBut b3.extBut D.TOi2.symm) (((t2.extBut b1.extBut D.l2z).extBut b2.extBut D.l2i1).extBut b3.extBut D.l2TO) hy fun g4 j4 b4 => ?_
  have o4 : IsPair g4 tO x b := b4.extBut _ _ D.TOi2 o3
  refine wpAny_bind (wpAny_seqItems o4 rfl (wpAny_bind (wpAny_updateSeq_pair o4 fun g5 o5 b5 => ?_)))
  replace o5 : IsPair g5 tO x y := o5
  refine wpAny_bind (wpAny_letGo (wpAny_pure (wpAny_pure (wpAny_bind (wpAny_seqItems o5 rfl (wpAny_bind (wpAny_newTuple ?_)))))))
  have sz : g5.objs.size = s.heap.objs.size := by rw [b5.1, b4.1, b3.1, b2.1, b1.1]
  have z5 : ZSt g5 z ti tO .ellipsis := b5.extBut _ _ D.TOz.symm (b4.extBut _ _ D.i2z.symm (b3.extBut _ _ D.TOz.symm (b2.extBut _ _ D.i1z.symm z1)))
  have kp : ∀ c o, c ≠ z → c ≠ tO → c ≠ i1 → c ≠ i2 → s.heap.get? c = some o → g5.get? c = some o := fun c o n1 n2 n3 n4 e => b5.extBut _ _ n2 (b4.extBut _ _ n4 (b3.extBut _ _ n2 (b2.extBut _ _ n3 (b1.extBut _ _ n1 e))))
  have m1 : g5.IsTupleIter i1 l1 (k + 1) := ((j2.extBut b3.extBut D.TOi1.symm).extBut b4.extBut D.i12).extBut b5.extBut D.TOi1.symm
  have m2 : g5.IsTupleIter i2 l2 (k + 1) := j4.extBut b5.extBut D.TOi2.symm
  have lz : z < g5.objs.size := Heap.lt_size z5
  show wpAny _ _ (Builtin.SmallTypes.ownedTupleHandOut (.ref z) (.ref g5.objs.size) >>= _) _ _ _
  refine wpAny_bind ?_
  unfold Builtin.SmallTypes.ownedTupleHandOut
  have z6 : ZSt (g5.push { cls := .type "tuple", data := .seq #[x, y] }) z ti tO .ellipsis := Heap.get?_push_of_some _ z5
  refine wpAny_bind (wpAny_setField_rec z6 (by simp) fun g7 z7 b7 => ?_)
  replace z7 : ZSt g7 z ti tO (rawInt g5.objs.size) := z7
  refine wpAny_setField_rec z7 (by simp) fun g8 z8 b8 => ?_
  replace z8 : ZSt g8 z ti tO (rawInt g5.objs.size) := z8
  have up : ∀ c o, c ≠ z → g5.get? c = some o → g8.get? c = some o := fun c o n1 e => b8.extBut _ _ n1 (b7.extBut _ _ n1 (Heap.get?_push_of_some _ e))
  have p8 : IsPair g8 g5.objs.size x y := b8.extBut _ _ (Nat.ne_of_gt lz) (b7.extBut _ _ (Nat.ne_of_gt lz) (Heap.get?_push_size _ rfl))
  have s8 : g8.objs.size = g5.objs.size + 1 := by rw [b8.1, b7.1, Heap.size_push]
  rw [sz] at z8 p8 s8
  refine wpAny_pure ⟨_, rfl, ?_⟩
  show Q (.ref g5.objs.size) _
  rw [sz]
  exact q g8 z8 (up _ _ D.TOz o5) (m1.at fun o e => up _ o D.i1z e) (m2.at fun o e => up _ o D.i2z e) p8 s8 fun c o n1 n2 n3 n4 e => up c o n1 (kp c o n1 n2 n3 n4 e)
theorem zs_end {z ti tO i1 i2 l1 l2 : Addr} {k : Nat} {xs ys : Array Value} {a b : Value} {Q : Fin → Shared → Prop} (hh : A.handled = none) (D : ZipApart z ti tO i1 i2 l1 l2) (hz : ZSt s.heap z ti tO .none) (hti : IsPair s.heap ti (.ref i1) (.ref i2)) (hto : IsPair s.heap tO a b)
    (h1 : s.heap.IsTupleIter i1 l1 k) (h2 : s.heap.IsTupleIter i2 l2 k) (t1 : s.heap.IsTuple l1 xs) (t2 : s.heap.IsTuple l2 ys) (hx : xs[k]? = none) (hy : ys[k]? = none)
    (q : ∀ h' e, (∀ c o, c ≠ z → c ≠ tO → c ≠ i1 → c ≠ i2 → s.heap.get? c = some o → h'.get? c = some o) → (∃ o, h'.get? e = some o ∧ o.cls = .type "StopIteration") → E (.ref e) { s with heap := h' }) :
    wpAny (model prog w) A (Builtin.«zip.__next__» ⟨[.ref z], []⟩) Q E s := by
  show wpAny _ _ (field (.ref z) 2 >>= _) _ _ _
  refine wpAny_bind (wpAny_field hz rfl (x := .bool true) rfl ?_)
  show wpAny _ _ (field (.ref z) 3 >>= _) _ _ _
  refine wpAny_bind (wpAny_field hz rfl (x := .ref ti) rfl (wpAny_bind (wpAny_seqItems hti rfl ?_)))
  show wpAny _ _ (Builtin.SmallTypes.ownedTupleIsFree (.ref z) >>= _) _ _ _
  refine wpAny_bind ?_
  unfold Builtin.SmallTypes.ownedTupleIsFree
  refine wpAny_bind (wpAny_field hz rfl (x := .none) rfl (wpAny_pure ?_))
  simp only [if_true]
  refine wpAny_bind (wpAny_rule (wpAny_bind (wpAny_field hz rfl (x := .ref tO) rfl (wpAny_bind (wpAny_setField_rec hz (by simp) fun g1 z1 b1 => ?_)))))
  replace z1 : ZSt g1 z ti tO .ellipsis := z1
  refine wpAny_bind ?_
  simp only [List.zipIdx_cons, List.zipIdx_nil, List.forIn_cons, List.forIn_nil]
  refine wpAny_bind (wpAny_bind (wpAny_onRaise ?_))
  show wpAny _ _ (Builtin.SmallTypes.nextOrEnd (.ref i1)) _ _ _
  refine noe_end hh (h1.extBut b1.extBut D.i1z) (t1.extBut b1.extBut D.l1z) hx fun g2 b2 => ?_
  have z2 : ZSt g2 z ti tO .ellipsis := b2 _ _ D.i1z.symm z1
  refine wpAny_bind (wpAny_setField_rec z2 (by simp) fun g3 z3 b3 => ?_)
  refine wpAny_bind ?_
  show wpAny _ _ (forIn [(Value.ref i2, 1)] _ _ >>= _) _ _ _
  refine wpAny_bind ?_
  simp only [List.forIn_cons, List.forIn_nil]
  have e2 : ∀ c o, c ≠ i1 → c ≠ z → s.heap.get? c = some o → g3.get? c = some o := fun c o n1 n2 e => b3.extBut _ _ n2 (b2 _ _ n1 (b1.extBut _ _ n2 e))
  refine wpAny_bind (wpAny_bind (noe_end hh (h2.at fun o e => e2 _ o D.i12.symm D.i2z e) ?_ hy fun g4 b4 => ?_))
  · obtain ⟨o, ho, r⟩ := t2
    exact ⟨o, e2 _ o D.l2i1 D.l2z ho, r⟩
  refine wpAny_pure (wpAny_pure (wpAny_bind (wpAny_rule ?_)))
  show wpAny _ _ (newExc (.type "StopIteration") [] >>= _) _ _ _
  refine wpAny_bind ?_
  simp only [newExc, newTuple]
  refine wpAny_bind (wpAny_newObj_type ?_ (by size_fits))
  refine wpAny_bind (m := firstArgMember _ _) (wpAny_of_eq (a := Value.none) (by first | rfl | (simp only [firstArgMember]; rfl)) (wpAny_newObj_type ?_ (by size_fits)))
  simp only [raiseNew]
  refine wpAny_bind (wpAny_handled ?_)
  first | rw [show A.in1.handled = none from hh] | rw [hh]
  refine wpAny_bind (wpAny_pure (wpAny_throw (q _ _ (fun c o n1 n2 n3 n4 e => ?_) ⟨_, Heap.get?_push_size _ rfl, rfl⟩)))
  exact Heap.get?_push_of_some _ (Heap.get?_push_of_some _ (b4 _ _ n4 (e2 c o n3 n1 e)))
theorem nx_item {z ti tO i1 i2 l1 l2 : Addr} {k : Nat} {xs ys : Array Value} {x y a b : Value} {Q : Option Value → Shared → Prop} (D : ZipApart z ti tO i1 i2 l1 l2) (hz : ZSt s.heap z ti tO .none) (hti : IsPair s.heap ti (.ref i1) (.ref i2)) (hto : IsPair s.heap tO a b)
    (h1 : s.heap.IsTupleIter i1 l1 k) (h2 : s.heap.IsTupleIter i2 l2 k) (t1 : s.heap.IsTuple l1 xs) (t2 : s.heap.IsTuple l2 ys) (hx : xs[k]? = some x) (hy : ys[k]? = some y)
    (q : ∀ h', ZSt h' z ti tO (rawInt s.heap.objs.size) → IsPair h' tO x y → h'.IsTupleIter i1 l1 (k + 1) → h'.IsTupleIter i2 l2 (k + 1) → IsPair h' s.heap.objs.size x y → h'.objs.size = s.heap.objs.size + 1 →
      (∀ c o, c ≠ z → c ≠ tO → c ≠ i1 → c ≠ i2 → s.heap.get? c = some o → h'.get? c = some o) → Q (some (.ref s.heap.objs.size)) { s with heap := h' }) : wpAny (model prog w) A (pyNext (.ref z)) Q E s := by
  have ty : s.TypeIs (.ref z) "zip" := ⟨_, hz, rfl⟩
  unfold pyNext
  exact wpAny_bind (wpAny_attempt (wpAny_callSpecial?_slot (name := Str.ofString "__next__") ty F.slot_zip_next (wpAny_call_entry F.slot_zip_next ty F.entry_zip_next (zs_item D hz hti hto h1 h2 t1 t2 hx hy fun h' c1 c2 c3 c4 c5 c6 c7 => wpAny_pure (q h' c1 c2 c3 c4 c5 c6 c7)) (F.args_zip_next_1 _))))
theorem nx_end {z ti tO i1 i2 l1 l2 : Addr} {k : Nat} {xs ys : Array Value} {a b : Value} {Q : Option Value → Shared → Prop} (hh : A.handled = none) (D : ZipApart z ti tO i1 i2 l1 l2) (hz : ZSt s.heap z ti tO .none) (hti : IsPair s.heap ti (.ref i1) (.ref i2)) (hto : IsPair s.heap tO a b)
    (h1 : s.heap.IsTupleIter i1 l1 k) (h2 : s.heap.IsTupleIter i2 l2 k) (t1 : s.heap.IsTuple l1 xs) (t2 : s.heap.IsTuple l2 ys) (hx : xs[k]? = none) (hy : ys[k]? = none)
    (q : ∀ h', (∀ c o, c ≠ z → c ≠ tO → c ≠ i1 → c ≠ i2 → s.heap.get? c = some o → h'.get? c = some o) → Q none { s with heap := h' }) : wpAny (model prog w) A (pyNext (.ref z)) Q E s := by
  have ty : s.TypeIs (.ref z) "zip" := ⟨_, hz, rfl⟩
  unfold pyNext
  refine wpAny_bind (wpAny_attempt (wpAny_callSpecial?_slot (name := Str.ofString "__next__") ty F.slot_zip_next (wpAny_call_entry F.slot_zip_next ty F.entry_zip_next (zs_end hh D hz hti hto h1 h2 t1 t2 hx hy fun h' e hk he => ?_) (F.args_zip_next_1 _))))
  obtain ⟨oe, hoe, hce⟩ := he
  exact wpAny_bind (wpAny_isInstance (T := "StopIteration") (b := true) ⟨oe, hoe, hce⟩ isSubtype_stop (wpAny_pure (q _ hk)))
theorem own_go {elts : List Expr} {kk} {pos : Pos} {z ti tO T : Addr} {Q : Unit → Shared → Prop} (hz : ZSt s.heap z ti tO (rawInt T)) (q : ∀ h', ZSt h' z ti tO .none → Heap.SameBut z s.heap h' → Q () { s with heap := h' }) : wpAny (model prog w) A (letOwnedTupleGo (.Tuple elts kk pos) (.ref z) (.ref T)) Q E s := by
  unfold letOwnedTupleGo
  refine wpAny_bind (wpAny_load hz ?_)
  show wpAny _ _ (if (_ && (#[rawInt T, .bool false, .bool true, .ref ti, .ref tO] : Array Value)[0]? == some (rawInt T)) = true then _ else _) Q E s
  rw [if_pos (by simp)]
  exact wpAny_bind (wpAny_rule (show wpAny _ _ (setField (.ref z) 0 .none) Q E s from wpAny_setField_rec hz (by simp) fun h' z' b' => q h' z' b'))
theorem iter_zs {z ti tO : Addr} {fl : Value} {Q : Value → Shared → Prop} (hz : ZSt s.heap z ti tO fl) (q : Q (.ref z) s) : wpAny (model prog w) A (pyIter (.ref z)) Q E s := by
  have ty : s.TypeIs (.ref z) "zip" := ⟨_, hz, rfl⟩
  refine wpAny_pyIter_slot ty F.slot_zip_iter (wpAny_call_entry F.slot_zip_iter ty F.entry_zip_iter ?_ (F.args_zip_iter_1 _))
  exact wpAny_pure ⟨_, rfl, "zip", _, ty, F.slot_zip_next.lookup, q⟩
end
end Pb

namespace Pb
open PySem PySem.Spec PyProof.Rows L2 TL
abbrev kwS : List (Str × Value) := [(Str.ofString "strict", .bool true)]
abbrev zA (h : Heap) (l1 : Addr) : Heap := h.push { cls := .type "tuple_iterator", data := .fields #[.ref l1, .int 0 0] }
abbrev zB (h : Heap) (l1 l2 : Addr) : Heap := (zA h l1).push { cls := .type "tuple_iterator", data := .fields #[.ref l2, .int 0 0] }
abbrev zC (h : Heap) (l1 l2 : Addr) : Heap := (zB h l1 l2).push { cls := .type "tuple", data := .seq #[.ref h.objs.size, .ref (zA h l1).objs.size] }
abbrev zD (h : Heap) (l1 l2 : Addr) : Heap := (zC h l1 l2).push { cls := .type "tuple", data := .seq #[.none, .none] }
abbrev zE (h : Heap) (l1 l2 : Addr) : Heap := (zD h l1 l2).push { cls := .type "zip", data := .fields #[.none, .bool false, .bool true, .ref (zB h l1 l2).objs.size, .ref (zC h l1 l2).objs.size] }
theorem meets_zs (l1 l2 : Addr) (xs ys : Array Value) : Meets (Builtin.«zip.__new__» ⟨[.type "zip", .ref l1, .ref l2], kwS⟩) (fun _ R s => s.heap.IsTuple l1 xs ∧ s.heap.IsTuple l2 ys ∧ R (.ok (.ret (.ref (zD s.heap l1 l2).objs.size))) { s with heap := zE s.heap l1 l2 }) :=
  .of_wp fun prog w A R s h => by
    obtain ⟨hp, g, d, tk, os⟩ := s
    obtain ⟨ha, hb, h⟩ := h
    have sb := sub_zip
    have u1 : Heap.IsTuple (Shared.heap ⟨hp, g, d, tk, os⟩) l1 xs := ha
    have u2 : Heap.IsTuple (Shared.heap ⟨hp.push { cls := .type "tuple_iterator", data := .fields #[.ref l1, .int 0 0] }, g, d, tk, os⟩) l2 ys := Heap.IsTuple.push hb _
    wp_walk using wpAny_pyIter_tuple u1, wpAny_pyIter_tuple u2
    exact ⟨_, rfl, h⟩
theorem tc_zs (a b : Value) : checkTypeCall "zip" ⟨[a, b], kwS⟩ = pure () := by kernel_rfl
theorem nc_zs (a b : Value) : checkBuiltinCall "zip.__new__" ⟨[.type "zip", a, b], kwS⟩ = pure () := by kernel_rfl
end Pb

namespace Pb
open PySem PySem.Spec PyProof.Rows L2 TL
theorem ar_zs (o a b : Value) : argsOk "object.__init__" ⟨[o, a, b], kwS⟩ := by
  unfold argsOk
  rw [signature?_of (id := "object.__init__") (n := ['_', '_', 't', 'i', 'n', 'i', '_', '_']) (o := ['t', 'c', 'e', 'j', 'b', 'o']) (by kernel_rfl) F.owner_object]
  kernel_rfl
theorem in_zs (o a b : Value) : Meets (Builtin.«object.__init__» ⟨[o, a, b], kwS⟩) (fun _ R s => s.TypeIs o "zip" ∧ R (.ok (.ret .none)) s) := by
  refine Meets.of_wp fun prog w A R s hs => ?_
  obtain ⟨hT, hq⟩ := hs
  have hl := F.called_zip.init.lookup
  have hm := F.called_zip.made
  have hne : (some "zip.__new__" != some "object.__new__") = true := by decide
  (repeat (any_goals (first | assumption | wp_step)))
  exact ⟨_, rfl, hq⟩
section
variable {prog : Program} {w : World} {A : Around} {E : Value → Shared → Prop} {s : Shared}
theorem call_zs0 {l1 l2 : Addr} {xs ys : Array Value} {Q : Value → Shared → Prop} (a1 : s.heap.IsTuple l1 xs) (a2 : s.heap.IsTuple l2 ys)
    (q : (Shared.TypeIs { s with heap := zE s.heap l1 l2 } (.ref (zD s.heap l1 l2).objs.size) "zip") ∧ Q (.ref (zD s.heap l1 l2).objs.size) { s with heap := zE s.heap l1 l2 }) : wpAny (model prog w) A (call (.type "zip") [.ref l1, .ref l2] kwS) Q E s := by
  have ft := F.called_zip
  obtain ⟨c, tl, hmro⟩ := ft.mro
  have hmade := ft.made
  have hsub := ft.sub
  have hct := tc_zs (.ref l1) (.ref l2)
  have hcn := nc_zs (.ref l1) (.ref l2)
  refine wpAny_call (codeAny_of_tree ?_)
  show wpAny _ _ (callAny (.type "zip") _) _ _ _
  refine wpAny_pure ⟨Code.quiet_builtin _ (by decide +kernel), codeAny_builtin F.entry_type_call ?_⟩
  rw [Around.under_plain (weight_type_call_type "zip" [.ref l1, .ref l2] kwS) (units_type_call_type "zip" [.ref l1, .ref l2] kwS)]
  have n1 := ft.notType
  have n2 := ft.canCreate
  (repeat (any_goals (first | assumption | wp_step)))
  refine codeAny_mono (codeAny_call_builtin ft.plain F.entry_zip_new (wpAny_of_eq hcn ((meets_zs l1 l2 xs ys) prog w A.in1 (wants (fun obj s₁ => s₁.TypeIs obj "zip" ∧ Q obj s₁) E) s ⟨a1, a2, q⟩))) fun r s1 hr => ?_
  cases r with
  | error e => exact hr
  | ok fl =>
    cases fl with
    | ret obj =>
      have hT : s1.TypeIs obj "zip" := hr.1
      have hli := ft.init.lookup
      have hbi := ft.init.bind obj
      (repeat (any_goals (first | assumption | wp_step)))
      refine codeAny_mono (codeAny_call_builtin ft.init.plain F.entry_object_init (ft.init.check _ _ _ _ _ _ _ _ hT (ar_zs obj (.ref l1) (.ref l2)) ((in_zs obj (.ref l1) (.ref l2)) prog w A.in1 (wants (fun r s2 => r = .none ∧ Q obj s2) E) s1 ⟨hT, rfl, hr.2⟩))) fun r2 s2 hr2 => ?_
      cases r2 with
      | error e => exact hr2
      | ok fl2 =>
        cases fl2 with
        | ret r =>
          obtain ⟨rfl, hq⟩ := hr2
          (repeat (any_goals (first | assumption | wp_step)))
        | _ => exact hr2.elim
    | _ => exact hr.elim
end
end Pb

namespace Pb
open PySem PySem.Spec PyProof.Rows L2 TL
section
variable {M : Model} {A : Around} {E : Value → Shared → Prop} {s : Shared} {env : Env}
theorem cwK {pos : Pos} {T : String} {e : Expr} {rest : List Expr} {kws : List Keyword} {Q : Value → Shared → Prop}
    (h : wpAny M A (spliced (backTo pos (starEach (e :: rest) env))) (fun vs s1 => wpAny M A (evalAll ((backToKw pos (keywordEach kws env)).map (·.2))) (fun ks s2 => wpAny M A (call (.type T) vs (((backToKw pos (keywordEach kws env)).filterMap (·.1)).zip ks)) Q E s2) E s1) E s)
    (he : backTo pos (starEach (e :: rest) env) = (false, eval e env) :: backTo pos (starEach rest env)) (hp : (backTo pos (starEach (e :: rest) env)).any (·.1) = false) (ha : (backToKw pos (keywordEach kws env)).all (·.1.isSome) = true) (hk : (backToKw pos (keywordEach kws env)).any (·.1.isNone) = false) :
    wpAny M A (callWith pos (.type T) [] (backTo pos (starEach (e :: rest) env)) (backToKw pos (keywordEach kws env))) Q E s := by
  have g : wpAny M A (evalArgs (.type T) true (backTo pos (starEach (e :: rest) env)) (backToKw pos (keywordEach kws env))) (fun a s1 => wpAny M A (call (.type T) ([] ++ a.pos) a.kw) Q E s1) E s := by
    rw [he] at h ⊢
    exact evalArgs_kwB ha h
  unfold callWith
  refine wpAny_bind (wpAny_holding (wpAny_mono g (fun a s1 c1 => wpAny_bind (wpAny_standAt ?_)) fun _ _ z => z))
  simp only [hp, hk, Bool.or_false]
  exact wpAny_bind (wpAny_pure (wpAny_bind (wpAny_mono c1 (fun r s2 hr => wpAny_bind (wpAny_holding (wpAny_point (wpAny_pure hr)))) fun _ _ z => z)))
end
section
variable {prog : Program} {w : World} {A : Around} {E : Value → Shared → Prop} {s : Shared}
theorem call_zs {l1 l2 : Addr} {xs ys : Array Value} {Q : Value → Shared → Prop} (a1 : s.heap.IsTuple l1 xs) (a2 : s.heap.IsTuple l2 ys)
    (q : ∀ h', ZSt h' (s.heap.objs.size + 4) (s.heap.objs.size + 2) (s.heap.objs.size + 3) .none → IsPair h' (s.heap.objs.size + 2) (.ref s.heap.objs.size) (.ref (s.heap.objs.size + 1)) → IsPair h' (s.heap.objs.size + 3) .none .none → h'.IsTupleIter s.heap.objs.size l1 0 → h'.IsTupleIter (s.heap.objs.size + 1) l2 0 →
      (∀ c o, s.heap.get? c = some o → h'.get? c = some o) → Q (.ref (s.heap.objs.size + 4)) { s with heap := h' }) : wpAny (model prog w) A (call (.type "zip") [.ref l1, .ref l2] kwS) Q E s := by
  refine call_zs0 a1 a2 ?_
  have n1 : (zA s.heap l1).objs.size = s.heap.objs.size + 1 := Heap.size_push ..
  have n2 : (zB s.heap l1 l2).objs.size = s.heap.objs.size + 2 := by rw [Heap.size_push, n1]
  have n3 : (zC s.heap l1 l2).objs.size = s.heap.objs.size + 3 := by rw [Heap.size_push, n2]
  have n4 : (zD s.heap l1 l2).objs.size = s.heap.objs.size + 4 := by rw [Heap.size_push, n3]
  have e5 : (zE s.heap l1 l2).get? (zD s.heap l1 l2).objs.size = some _ := Heap.get?_push_size _ rfl
  have e4 : (zE s.heap l1 l2).get? (zC s.heap l1 l2).objs.size = some _ := Heap.get?_push_of_some _ (Heap.get?_push_size _ rfl)
  have e3 : (zE s.heap l1 l2).get? (zB s.heap l1 l2).objs.size = some _ := Heap.get?_push_of_some _ (Heap.get?_push_of_some _ (Heap.get?_push_size _ rfl))
  have e2 : (zE s.heap l1 l2).get? (zA s.heap l1).objs.size = some _ := Heap.get?_push_of_some _ (Heap.get?_push_of_some _ (Heap.get?_push_of_some _ (Heap.get?_push_size _ rfl)))
  have e1 : (zE s.heap l1 l2).get? s.heap.objs.size = some _ := Heap.get?_push_of_some _ (Heap.get?_push_of_some _ (Heap.get?_push_of_some _ (Heap.get?_push_of_some _ (Heap.get?_push_size _ rfl))))
  rw [n2, n3, n4] at e5
  rw [n1, n2] at e3
  rw [n3] at e4
  rw [n1] at e2
  rw [n4]
  exact ⟨⟨_, e5, rfl⟩, q _ e5 e3 e4 ⟨_, e1, rfl, rfl⟩ ⟨_, e2, rfl, rfl⟩ fun c o x => Heap.get?_push_of_some _ (Heap.get?_push_of_some _ (Heap.get?_push_of_some _ (Heap.get?_push_of_some _ (Heap.get?_push_of_some _ x))))⟩
end
/-- the tuples at a and b, of one length, the items in new pairs -/
def ItzS (K : PySem.W.Frag) (a b : Addr) : It :=
  ⟨(RZ.ItzT K a b).go, (RZ.ItzT K a b).yld, fun i H => ∃ xs ys : List V, SqT K H a xs ∧ SqT K H b ys ∧ xs.length ≤ i ∧ ys.length ≤ i⟩
theorem turn_zs {P : Program} {w : World} {K : PySem.W.Frag} {elts : List Expr} {kk : Nat} {tpos : Pos} {a b z ti tO i1 i2 : Addr} (D : ZipApart z ti tO i1 i2 a b) :
    Turn P w K (.Tuple elts kk tpos) (ItzS K a b) [z, ti, tO, i1, i2] z (fun i h => ZSt h z ti tO .none ∧ IsPair h ti (.ref i1) (.ref i2) ∧ (∃ x y, IsPair h tO x y) ∧ h.IsTupleIter i1 a i ∧ h.IsTupleIter i2 b i) where
  mem := List.mem_cons_self
  obj := fun i h st c hc => by
    obtain ⟨c1, c2, ⟨x, y, c3⟩, ⟨o1, e1, _, d1⟩, ⟨o2, e2, _, d2⟩⟩ := st
    simp only [List.mem_cons, List.not_mem_nil, or_false] at hc
    rcases hc with rfl | rfl | rfl | rfl | rfl
    · exact ⟨_, c1, fun v q => nomatch q⟩
    · exact ⟨_, c2, fun v q => nomatch q⟩
    · exact ⟨_, c3, fun v q => nomatch q⟩
    · exact ⟨o1, e1, fun v q => by rw [d1] at q; cases q⟩
    · exact ⟨o2, e2, fun v q => by rw [d2] at q; cases q⟩
  keep := fun i h h' st k => by
    obtain ⟨c1, c2, ⟨x, y, c3⟩, c4, c5⟩ := st
    exact ⟨k z (by simp) _ c1, k ti (by simp) _ c2, ⟨x, y, k tO (by simp) _ c3⟩, c4.at fun o q => k i1 (by simp) o q, c5.at fun o q => k i2 (by simp) o q⟩
  item := by
    intro X hP hw hK hc i pins s σ H E I hf st hg
    subst hP hw hK
    obtain ⟨c1, c2, ⟨x0, y0, c3⟩, c4, c5⟩ := st
    obtain ⟨xs, ys, x, y, qx, qy, hx, hy⟩ := hg
    obtain ⟨its, rv, p, _⟩ := I.tuple qx
    obtain ⟨its2, rv2, p2, _⟩ := I.tuple qy
    obtain ⟨u, hu, ru⟩ := rv.get hx
    obtain ⟨u2, hu2, ru2⟩ := rv2.get hy
    have lz : z < s.heap.objs.size := Heap.lt_size c1
    refine nx_item D c1 c2 c3 c4 c5 p p2 (x := u) (y := u2) (by simpa using hu) (by simpa using hu2) fun h' z' o' j1 j2 hT hs hk => ⟨_, rfl, own_go (s := { s with heap := h' }) z' fun h2 z2 sb => ?_⟩
    have hT2 : h2.get? s.heap.objs.size = some { cls := .type "tuple", data := .seq #[u, u2] } := (sb.2 _ (Nat.ne_of_gt lz)).trans hT
    have nw : ObjOk X.prog X.w (upd H s.heap.objs.size (.tup [x, y])) h2 s.heap.objs.size (.tup [x, y]) := ⟨by show 2 ≤ sizeLine; decide, [u, u2], .cons ru (.cons ru2 .nil), ⟨_, hT2, rfl, _, rfl⟩⟩
    have I1 : Inv X pins σ (upd H s.heap.objs.size (.tup [x, y])) { s with heap := h2 } := I.turnedNew (t' := s.toks) (ch := [z, ti, tO, i1, i2]) (fun c o hb q => (sb.2 c (fun q' => hb (by simp [q']))).trans (hk c o (fun q' => hb (by simp [q'])) (fun q' => hb (by simp [q'])) (fun q' => hb (by simp [q'])) (fun q' => hb (by simp [q'])) q)) hf (Nat.le_refl _) nw
    refine ⟨.ref s.heap.objs.size, _, I1, rfl, ⟨_, x, y, rfl, I.hok.fresh (Nat.le_refl _), rfl, fun l hl => by rw [I.tuple_inj hl qx]; exact hx, fun l hl => by rw [I.tuple_inj hl qy]; exact hy⟩, ⟨z2, (sb.2 _ D.TIz).trans (hk _ _ D.TIz D.TITO D.TIi1 D.TIi2 c2), ⟨u, u2, (sb.2 _ D.TOz).trans o'⟩, j1.at fun o q => (sb.2 _ D.i1z).trans q, j2.at fun o q => (sb.2 _ D.i2z).trans q⟩, fun c hcm => ?_⟩
    have lt : c < s.heap.objs.size := by
      simp only [List.mem_cons, List.not_mem_nil, or_false] at hcm
      rcases hcm with rfl | rfl | rfl | rfl | rfl
      · exact lz
      · exact Heap.lt_size c2
      · exact Heap.lt_size c3
      · obtain ⟨_, e1, _⟩ := c4
        exact Heap.lt_size e1
      · obtain ⟨_, e2, _⟩ := c5
        exact Heap.lt_size e2
    rw [upd_ne (Nat.ne_of_lt lt)]
    exact (hf c hcm).1
  done := by
    intro X hP hw hK hc i pins s σ H E I hf st hg
    subst hP hw hK
    obtain ⟨c1, c2, ⟨x0, y0, c3⟩, c4, c5⟩ := st
    obtain ⟨xs, ys, qx, qy, ex, ey⟩ := hg
    obtain ⟨its, rv, p, _⟩ := I.tuple qx
    obtain ⟨its2, rv2, p2, _⟩ := I.tuple qy
    have l1 := rv.length
    have l2 := rv2.length
    exact nx_end (I.ok.hd hc) D c1 c2 c3 c4 c5 p p2 (by simp; omega) (by simp; omega) fun h' hk => ⟨rfl, I.turnedL (t' := s.toks) (ch := [z, ti, tO, i1, i2]) (fun c o hb q => hk c o (fun q' => hb (by simp [q'])) (fun q' => hb (by simp [q'])) (fun q' => hb (by simp [q'])) (fun q' => hb (by simp [q'])) q) hf⟩
  self := fun A i s Q E st h => iter_zs st.1 h
def iZipS (K : PySem.W.Frag) (ta : TA) : TI := fun σ H R => ta σ H fun vs H1 => ∃ a b xs ys, vs = [.ref a, .ref b] ∧ SqT K H1 a xs ∧ SqT K H1 b ys ∧ R (ItzS K a b) H1
theorem pi_zipS {X : Cx} {e e2 : Expr} {ta : TA} {p pos tpos kp vp : Pos} {elts : List Expr} {kk j : Nat} (hg : Gl X "zip") (hm : X.mg "zip" = none) (ha : PA X [e, e2] ta)
    (he : backTo pos (starEach [e, e2] X.env) = (false, eval e X.env) :: backTo pos (starEach [e2] X.env) := by rfl) (hp : (backTo pos (starEach [e, e2] X.env)).any (·.1) = false := by rfl) :
    PI X (.Tuple elts kk tpos) (.Call (.Name "zip" p) [e, e2] [⟨some "strict", .Constant (.bool true) j vp, kp⟩] pos) (iZipS X.K ta) := by
  refine ⟨fun pins s σ H R I h => ?_⟩
  refine wpAny_Call_Name_kw (ld_blt I hg hm PyProof.Rows.boot_zip (cwK (thn (ha.run pos pins s σ H _ I h) fun us s1 ⟨vs, H1, I1, r1, q1⟩ => ?_) he hp rfl rfl))
  obtain ⟨a, b, xs, ys, ex, qx, qy, q⟩ := q1
  subst ex
  refine kws_cons (thn ((pe_bl (X := X) (b := true) (pos := vp)).run pins s1 σ H1 (fun v H' => v = .bl true ∧ H' = H1) I1 ⟨rfl, rfl⟩) fun kv s2 ⟨x, H2, I2, rk, e1, e2⟩ => kws_nil ?_)
  subst e1 e2
  cases rk
  cases r1 with
  | cons r rr =>
    cases rr with
    | cons r' rr =>
      cases rr
      cases r
      cases r'
      obtain ⟨its, rv, p1, _⟩ := I2.tuple qx
      obtain ⟨its2, rv2, p2, _⟩ := I2.tuple qy
      obtain ⟨o1, ho1, _⟩ := id p1
      obtain ⟨o2, ho2, _⟩ := id p2
      have fr : ∀ c, c ∈ [s2.heap.objs.size + 4, s2.heap.objs.size + 2, s2.heap.objs.size + 3, s2.heap.objs.size, s2.heap.objs.size + 1] → FpOk X pins H2 c := fun c hcm => by
        have le : s2.heap.objs.size ≤ c := by
          simp only [List.mem_cons, List.not_mem_nil, or_false] at hcm
          omega
        exact I2.fpOk le (I2.hok.fresh le)
      refine call_zs (show s2.heap.IsTuple a its.toArray from p1) (show s2.heap.IsTuple b its2.toArray from p2) fun h' hz hti hto h1 h2 hk => iter_zs hz ?_
      have I3 : Inv X pins σ H2 { s2 with heap := h' } := I2.kept (t' := s2.toks) hk
      exact ⟨s2.heap.objs.size + 4, [s2.heap.objs.size + 4, s2.heap.objs.size + 2, s2.heap.objs.size + 3, s2.heap.objs.size, s2.heap.objs.size + 1], _, _, H2, rfl, I3, turn_zs (PySem.W.ktu_apart s2.heap.objs.size a b (Heap.lt_size ho1) (Heap.lt_size ho2)), ⟨hz, hti, ⟨_, _, hto⟩, h1, h2⟩, fr, q⟩
section
variable {K : PySem.W.Frag} {od : Md} {Γ : List Sl}
theorem walk_zs {a b : Addr} {xs ys : List V} (hn : xs.length = ys.length) : Walk (ItzS K a b) xs.length (fun H => SqT K H a xs ∧ SqT K H b ys) (YPair (fun i => xs[i]?) (fun i => ys[i]?)) := by
  refine ⟨fun i _ hi q => ?_, fun _ q => ⟨xs, ys, q.1, q.2, Nat.le_refl _, by omega⟩, fun i H v H' _ q y => ?_⟩
  · have h2 : i < ys.length := by omega
    exact ⟨xs, ys, xs[i], ys[i], q.1, q.2, by simp [hi], by simp [h2]⟩
  · obtain ⟨T, x, z, c1, c2, c3, c4, c5⟩ := y
    exact ⟨T, x, z, c1, c2, c3, c4 xs q.1, c5 ys q.2⟩
theorem f_zipS {t : TA} {ds es : List PyData} (h : EvA K od t Γ [.da (.tuple ds), .da (.tuple es)]) (hl : ds.length = es.length) : EvF K od (iZipS K t) Γ (zipD ds es) Γ := f_pure fun n F B σ H f g R k => by
  refine h n (fun r m => r = [.da (.tuple ds), .da (.tuple es)] ∧ m = n) ⟨rfl, rfl⟩ F B σ H f g _ fun v H1 x m F1 e o1 a1 => ?_
  obtain ⟨rfl, rfl⟩ := e
  obtain ⟨u, w, rfl, a2, a3⟩ := a1.two
  obtain ⟨a, vs, rfl, e1, t1⟩ := Dk.tup' a2
  obtain ⟨b, us, rfl, e2, t2⟩ := Dk.tup' a3
  refine ⟨a, b, vs, us, rfl, e1.sq, e2.sq, k _ H1 F1 o1 ?_⟩
  have ln : vs.length = us.length := by rw [t1.len, t2.len, hl]
  have w : Walk (ItzS K a b) (zipD ds es).length (fun H => SqT K H a vs ∧ SqT K H b us) (YPair (fun i => vs[i]?) (fun i => us[i]?)) := by
    rw [zipD_len, ← hl, Nat.min_self, ← t1.len]
    exact walk_zs ln
  refine ⟨_, _, w, fun H2 p => ⟨(e1.tk p.1.1).sq, (e2.tk p.1.1).sq⟩, fun i d H2 x H3 ed p y => ?_⟩
  obtain ⟨d, e, g1, g2, rfl⟩ := zipD_get ed
  exact pairD y (fun u hu => (t1.fk p.1).getV hu g1) (fun u hu => (t2.fk p.1).getV hu g2)
end
end Pb

namespace Pb
open PySem PySem.Spec PyProof.Rows L2 TL
/-! ### enumerate(zip(a, b)) of lists: what next does -/
section
variable {prog : Program} {w : World} {A : Around} {E : Value → Shared → Prop} {s : Shared}
abbrev ZpS (h : Heap) (z ti tO : Addr) (fl : Value) (f : Bool) : Prop :=
  h.get? z = some { cls := .type "zip", dict := none, data := .fields #[fl, .bool f, .bool false, .ref ti, .ref tO], slots := #[] }
def ZOk (fl : Value) : Prop := fl = .none ∨ ∃ T : Addr, fl = rawInt T
theorem ld_dead {a : Addr} {Q : Option Obj → Shared → Prop} (ho : s.heap.get? a = none) (h : Q none s) : wpAny (model prog w) A (loadIfAlive a) Q E s := by
  have h' : Q (s.heap.get? a) s := by rw [ho]; exact h
  exact fun _ _ _ => h'
theorem fr_any {z ti tO : Addr} {fl : Value} {f : Bool} {Q : Bool → Shared → Prop} (hz : ZpS s.heap z ti tO fl f) (hf : fl = .none ∨ ∃ T : Addr, fl = rawInt T ∧ s.heap.get? T = none) (q : Q true s) : wpAny (model prog w) A (Builtin.SmallTypes.ownedTupleIsFree (.ref z)) Q E s := by
  unfold Builtin.SmallTypes.ownedTupleIsFree
  rcases hf with rfl | ⟨T, rfl, hT⟩
  · exact wpAny_bind (wpAny_field hz rfl (x := .none) rfl (wpAny_pure q))
  · refine wpAny_bind (wpAny_field hz rfl (x := rawInt T) rfl ?_)
    show wpAny _ _ (loadIfAlive ((T : Int).toNat) >>= _) _ _ _
    rw [Int.toNat_natCast]
    refine wpAny_bind (ld_dead hT ?_)
    simp only [Option.isNone_none, if_true]
    exact wpAny_pure q
theorem zl_item {z ti tO i1 i2 l1 l2 : Addr} {k : Nat} {xs ys : Array Value} {x y a b fl : Value} {f : Bool} {Q : Value → Shared → Prop} (D : ZipApart z ti tO i1 i2 l1 l2) (hz : ZpS s.heap z ti tO fl f) (hf : fl = .none ∨ ∃ T : Addr, fl = rawInt T ∧ s.heap.get? T = none) (hti : IsPair s.heap ti (.ref i1) (.ref i2)) (hto : IsPair s.heap tO a b)
    (h1 : s.heap.IsListIter i1 l1 k) (h2 : s.heap.IsListIter i2 l2 k) (t1 : s.heap.IsList l1 xs) (t2 : s.heap.IsList l2 ys) (hx : xs[k]? = some x) (hy : ys[k]? = some y)
    (q : ∀ h', ZpS h' z ti tO (rawInt s.heap.objs.size) false → IsPair h' tO x y → h'.IsListIter i1 l1 (k + 1) → h'.IsListIter i2 l2 (k + 1) → IsPair h' s.heap.objs.size x y → h'.objs.size = s.heap.objs.size + 1 →
      (∀ c o, c ≠ z → c ≠ tO → c ≠ i1 → c ≠ i2 → s.heap.get? c = some o → h'.get? c = some o) → Q (.ref s.heap.objs.size) { s with heap := h' }) :
    wpAny (model prog w) A (Builtin.«zip.__next__» ⟨[.ref z], []⟩) (fun fin s' => ∃ v, fin = .done (.ret v) ∧ Q v s') E s := by
  show wpAny _ _ (field (.ref z) 2 >>= _) _ _ _
  refine wpAny_bind (wpAny_field hz rfl (x := .bool false) rfl ?_)
  show wpAny _ _ (field (.ref z) 3 >>= _) _ _ _
  refine wpAny_bind (wpAny_field hz rfl (x := .ref ti) rfl (wpAny_bind (wpAny_seqItems hti rfl ?_)))
  show wpAny _ _ (Builtin.SmallTypes.ownedTupleIsFree (.ref z) >>= _) _ _ _
  refine wpAny_bind (fr_any hz hf ?_)
  simp only [if_true]
  refine wpAny_bind (wpAny_rule (wpAny_bind (wpAny_field hz rfl (x := .ref tO) rfl (wpAny_bind (wpAny_setField_rec hz (by simp) fun g1 z1 b1 => ?_)))))
  replace z1 : ZpS g1 z ti tO .ellipsis f := z1
  refine wpAny_bind ?_
  simp only [List.zipIdx_cons, List.zipIdx_nil, List.forIn_cons, List.forIn_nil]
  refine wpAny_bind (wpAny_bind (wpAny_onRaise ?_))
  show wpAny _ _ (Builtin.SmallTypes.nextOf (.ref i1) >>= _) _ _ _
  refine wpAny_bind (wpAny_nextOf_list_item (h1.extBut b1.extBut D.i1z) (t1.extBut b1.extBut D.l1z) hx fun g2 j2 b2 => wpAny_pure ?_)
  have o2 : IsPair g2 tO a b := b2.extBut _ _ D.TOi1 (b1.extBut _ _ D.TOz hto)
  refine wpAny_bind (wpAny_seqItems o2 rfl (wpAny_bind (wpAny_updateSeq_pair o2 fun g3 o3 b3 => ?_)))
  replace o3 : IsPair g3 tO x b := o3
  refine wpAny_bind (wpAny_letGo (wpAny_pure (wpAny_bind (wpAny_bind (wpAny_onRaise ?_)))))
  show wpAny _ _ (Builtin.SmallTypes.nextOf (.ref i2) >>= _) _ _ _
  refine wpAny_bind (wpAny_nextOf_list_item (((h2.extBut b1.extBut D.i2z).extBut b2.extBut D.i12.symm).extBut b3.extBut D.TOi2.symm) (((t2.extBut b1.extBut D.l2z).extBut b2.extBut D.l2i1).extBut b3.extBut D.l2TO) hy fun g4 j4 b4 => wpAny_pure ?_)
  have o4 : IsPair g4 tO x b := b4.extBut _ _ D.TOi2 o3
  refine wpAny_bind (wpAny_seqItems o4 rfl (wpAny_bind (wpAny_updateSeq_pair o4 fun g5 o5 b5 => ?_)))
  replace o5 : IsPair g5 tO x y := o5
  refine wpAny_bind (wpAny_letGo (wpAny_pure (wpAny_pure (wpAny_bind (wpAny_seqItems o5 rfl (wpAny_bind (wpAny_newTuple ?_)))))))
  have sz : g5.objs.size = s.heap.objs.size := by rw [b5.1, b4.1, b3.1, b2.1, b1.1]
  have z5 : ZpS g5 z ti tO .ellipsis f := b5.extBut _ _ D.TOz.symm (b4.extBut _ _ D.i2z.symm (b3.extBut _ _ D.TOz.symm (b2.extBut _ _ D.i1z.symm z1)))
  have kp : ∀ c o, c ≠ z → c ≠ tO → c ≠ i1 → c ≠ i2 → s.heap.get? c = some o → g5.get? c = some o := fun c o n1 n2 n3 n4 e => b5.extBut _ _ n2 (b4.extBut _ _ n4 (b3.extBut _ _ n2 (b2.extBut _ _ n3 (b1.extBut _ _ n1 e))))
  have m1 : g5.IsListIter i1 l1 (k + 1) := ((j2.extBut b3.extBut D.TOi1.symm).extBut b4.extBut D.i12).extBut b5.extBut D.TOi1.symm
  have m2 : g5.IsListIter i2 l2 (k + 1) := j4.extBut b5.extBut D.TOi2.symm
  have lz : z < g5.objs.size := Heap.lt_size z5
  show wpAny _ _ (Builtin.SmallTypes.ownedTupleHandOut (.ref z) (.ref g5.objs.size) >>= _) _ _ _
  refine wpAny_bind ?_
  unfold Builtin.SmallTypes.ownedTupleHandOut
  have z6 : ZpS (g5.push { cls := .type "tuple", data := .seq #[x, y] }) z ti tO .ellipsis f := Heap.get?_push_of_some _ z5
  refine wpAny_bind (wpAny_setField_rec z6 (by simp) fun g7 z7 b7 => ?_)
  replace z7 : ZpS g7 z ti tO (rawInt g5.objs.size) f := z7
  refine wpAny_setField_rec z7 (by simp) fun g8 z8 b8 => ?_
  replace z8 : ZpS g8 z ti tO (rawInt g5.objs.size) false := z8
  have up : ∀ c o, c ≠ z → g5.get? c = some o → g8.get? c = some o := fun c o n1 e => b8.extBut _ _ n1 (b7.extBut _ _ n1 (Heap.get?_push_of_some _ e))
  have p8 : IsPair g8 g5.objs.size x y := b8.extBut _ _ (Nat.ne_of_gt lz) (b7.extBut _ _ (Nat.ne_of_gt lz) (Heap.get?_push_size _ rfl))
  have s8 : g8.objs.size = g5.objs.size + 1 := by rw [b8.1, b7.1, Heap.size_push]
  rw [sz] at z8 p8 s8
  refine wpAny_pure ⟨_, rfl, ?_⟩
  show Q (.ref g5.objs.size) _
  rw [sz]
  exact q g8 z8 (up _ _ D.TOz o5) (m1.at fun o e => up _ o D.i1z e) (m2.at fun o e => up _ o D.i2z e) p8 s8 fun c o n1 n2 n3 n4 e => up c o n1 (kp c o n1 n2 n3 n4 e)
theorem zl_end {z ti tO i1 i2 l1 l2 : Addr} {k : Nat} {xs ys : Array Value} {a b fl : Value} {f : Bool} {Q : Fin → Shared → Prop} (hh : A.handled = none) (D : ZipApart z ti tO i1 i2 l1 l2) (hz : ZpS s.heap z ti tO fl f) (hf : fl = .none ∨ ∃ T : Addr, fl = rawInt T ∧ s.heap.get? T = none) (hti : IsPair s.heap ti (.ref i1) (.ref i2)) (hto : IsPair s.heap tO a b)
    (h1 : s.heap.IsListIter i1 l1 k) (h2 : s.heap.IsListIter i2 l2 k) (t1 : s.heap.IsList l1 xs) (t2 : s.heap.IsList l2 ys) (hn : xs[k]? = none ∨ ys[k]? = none)
    (q : ∀ h' e, (∀ c o, c ≠ z → c ≠ tO → c ≠ i1 → c ≠ i2 → s.heap.get? c = some o → h'.get? c = some o) → (∃ o, h'.get? e = some o ∧ o.cls = .type "StopIteration") → E (.ref e) { s with heap := h' }) :
    wpAny (model prog w) A (Builtin.«zip.__next__» ⟨[.ref z], []⟩) Q E s := by
  show wpAny _ _ (field (.ref z) 2 >>= _) _ _ _
  refine wpAny_bind (wpAny_field hz rfl (x := .bool false) rfl ?_)
  show wpAny _ _ (field (.ref z) 3 >>= _) _ _ _
  refine wpAny_bind (wpAny_field hz rfl (x := .ref ti) rfl (wpAny_bind (wpAny_seqItems hti rfl ?_)))
  show wpAny _ _ (Builtin.SmallTypes.ownedTupleIsFree (.ref z) >>= _) _ _ _
  refine wpAny_bind (fr_any hz hf ?_)
  simp only [if_true]
  refine wpAny_bind (wpAny_rule (wpAny_bind (wpAny_field hz rfl (x := .ref tO) rfl (wpAny_bind (wpAny_setField_rec hz (by simp) fun g1 z1 b1 => ?_)))))
  replace z1 : ZpS g1 z ti tO .ellipsis f := z1
  refine wpAny_bind ?_
  simp only [List.zipIdx_cons, List.zipIdx_nil, List.forIn_cons, List.forIn_nil]
  refine wpAny_bind (wpAny_bind (wpAny_onRaise ?_))
  show wpAny _ _ (Builtin.SmallTypes.nextOf (.ref i1) >>= _) _ _ _
  cases hx : xs[k]? with
  | none =>
    refine wpAny_bind (wpAny_nextOf_list_end hh (h1.extBut b1.extBut D.i1z) (t1.extBut b1.extBut D.l1z) hx fun g2 e b2 he => ?_)
    obtain ⟨oe, hoe, hce⟩ := he
    have z2 : ZpS g2 z ti tO .ellipsis f := b2 _ _ D.i1z.symm z1
    have ez : e ≠ z := fun r => by subst r; rw [z2] at hoe; cases hoe; simp at hce
    refine wpAny_setField_rec z2 (by simp) fun g3 _ b3 => q g3 e (fun c o c1 _ c3 _ r => b3.extBut _ _ c1 (b2 _ _ c3 (b1.extBut _ _ c1 r))) ⟨oe, b3.extBut _ _ ez hoe, hce⟩
  | some x =>
    have hy : ys[k]? = none := by
      rcases hn with h | h
      · rw [hx] at h
        cases h
      · exact h
    refine wpAny_bind (wpAny_nextOf_list_item (h1.extBut b1.extBut D.i1z) (t1.extBut b1.extBut D.l1z) hx fun g2 j2 b2 => wpAny_pure ?_)
    have o2 : IsPair g2 tO a b := b2.extBut _ _ D.TOi1 (b1.extBut _ _ D.TOz hto)
    refine wpAny_bind (wpAny_seqItems o2 rfl (wpAny_bind (wpAny_updateSeq_pair o2 fun g3 o3 b3 => ?_)))
    refine wpAny_bind (wpAny_letGo (wpAny_pure (wpAny_bind (wpAny_bind (wpAny_onRaise ?_)))))
    show wpAny _ _ (Builtin.SmallTypes.nextOf (.ref i2) >>= _) _ _ _
    refine wpAny_bind (wpAny_nextOf_list_end hh (((h2.extBut b1.extBut D.i2z).extBut b2.extBut D.i12.symm).extBut b3.extBut D.TOi2.symm) (((t2.extBut b1.extBut D.l2z).extBut b2.extBut D.l2i1).extBut b3.extBut D.l2TO) hy fun g4 e b4 he => ?_)
    obtain ⟨oe, hoe, hce⟩ := he
    have z4 : ZpS g4 z ti tO .ellipsis f := b4 _ _ D.i2z.symm (b3.extBut _ _ D.TOz.symm (b2.extBut _ _ D.i1z.symm z1))
    have ez : e ≠ z := fun r => by subst r; rw [z4] at hoe; cases hoe; simp at hce
    refine wpAny_setField_rec z4 (by simp) fun g5 _ b5 => q g5 e (fun c o c1 c2 c3 c4 r => b5.extBut _ _ c1 (b4 _ _ c4 (b3.extBut _ _ c2 (b2.extBut _ _ c3 (b1.extBut _ _ c1 r))))) ⟨oe, b5.extBut _ _ ez hoe, hce⟩
/-- next of a zip, whatever became of the pair that it told last -/
theorem zn_item {z ti tO i1 i2 l1 l2 : Addr} {k : Nat} {xs ys : Array Value} {x y a b fl : Value} {f : Bool} {Q : Value → Shared → Prop} (D : ZipApart z ti tO i1 i2 l1 l2) (hz : ZpS s.heap z ti tO fl f) (hf : ZOk fl) (hti : IsPair s.heap ti (.ref i1) (.ref i2)) (hto : IsPair s.heap tO a b)
    (h1 : s.heap.IsListIter i1 l1 k) (h2 : s.heap.IsListIter i2 l2 k) (t1 : s.heap.IsList l1 xs) (t2 : s.heap.IsList l2 ys) (hx : xs[k]? = some x) (hy : ys[k]? = some y)
    (q : ∀ h' fl' f', ZpS h' z ti tO fl' f' → ZOk fl' → (∃ a b, IsPair h' tO a b) → h'.IsListIter i1 l1 (k + 1) → h'.IsListIter i2 l2 (k + 1) → IsPair h' s.heap.objs.size x y → h'.objs.size = s.heap.objs.size + 1 →
      (∀ c o, c ≠ z → c ≠ tO → c ≠ i1 → c ≠ i2 → s.heap.get? c = some o → h'.get? c = some o) → Q (.ref s.heap.objs.size) { s with heap := h' }) :
    wpAny (model prog w) A (Builtin.SmallTypes.nextOf (.ref z)) Q E s := by
  have ty : s.TypeIs (.ref z) "zip" := ⟨_, hz, rfl⟩
  unfold Builtin.SmallTypes.nextOf
  refine wpAny_bind (wpAny_callSpecial?_slot (name := Str.ofString "__next__") ty F.slot_zip_next (wpAny_call_entry F.slot_zip_next ty F.entry_zip_next ?_ (F.args_zip_next_1 _)))
  have free : (fl = .none ∨ ∃ T : Addr, fl = rawInt T ∧ s.heap.get? T = none) ∨ ∃ (T : Addr) (o : Obj), fl = rawInt T ∧ s.heap.get? T = some o := by
    rcases hf with rfl | ⟨T, rfl⟩
    · exact .inl (.inl rfl)
    · cases e : s.heap.get? T with
      | none => exact .inl (.inr ⟨T, rfl, e⟩)
      | some o => exact .inr ⟨T, o, rfl, e⟩
  rcases free with hf | ⟨T, o, rfl, hT⟩
  · exact zl_item D hz hf hti hto h1 h2 t1 t2 hx hy fun h' c1 c2 c3 c4 c5 c6 c7 => wpAny_pure (q h' _ _ c1 (.inr ⟨_, rfl⟩) ⟨_, _, c2⟩ c3 c4 c5 c6 c7)
  · exact zip_next_item_held D hz hT hti h1 h2 t1 t2 hx hy fun h' c1 c3 c4 c5 c6 c7 => wpAny_pure (q h' _ _ c1 (.inr ⟨_, rfl⟩) ⟨_, _, c7 _ _ D.TOz D.TOi1 D.TOi2 hto⟩ c3 c4 c5 c6 fun c o n1 _ n3 n4 e => c7 c o n1 n3 n4 e)
theorem zn_end {z ti tO i1 i2 l1 l2 : Addr} {k : Nat} {xs ys : Array Value} {a b fl : Value} {f : Bool} {Q : Value → Shared → Prop} (hh : A.handled = none) (D : ZipApart z ti tO i1 i2 l1 l2) (hz : ZpS s.heap z ti tO fl f) (hf : ZOk fl) (hti : IsPair s.heap ti (.ref i1) (.ref i2)) (hto : IsPair s.heap tO a b)
    (h1 : s.heap.IsListIter i1 l1 k) (h2 : s.heap.IsListIter i2 l2 k) (t1 : s.heap.IsList l1 xs) (t2 : s.heap.IsList l2 ys) (hn : xs[k]? = none ∨ ys[k]? = none)
    (q : ∀ h' e, (∀ c o, c ≠ z → c ≠ tO → c ≠ i1 → c ≠ i2 → s.heap.get? c = some o → h'.get? c = some o) → (∃ o, h'.get? e = some o ∧ o.cls = .type "StopIteration") → E (.ref e) { s with heap := h' }) :
    wpAny (model prog w) A (Builtin.SmallTypes.nextOf (.ref z)) Q E s := by
  have ty : s.TypeIs (.ref z) "zip" := ⟨_, hz, rfl⟩
  unfold Builtin.SmallTypes.nextOf
  refine wpAny_bind (wpAny_callSpecial?_slot (name := Str.ofString "__next__") ty F.slot_zip_next (wpAny_call_entry F.slot_zip_next ty F.entry_zip_next ?_ (F.args_zip_next_1 _)))
  have free : (fl = .none ∨ ∃ T : Addr, fl = rawInt T ∧ s.heap.get? T = none) ∨ ∃ (T : Addr) (o : Obj), fl = rawInt T ∧ s.heap.get? T = some o := by
    rcases hf with rfl | ⟨T, rfl⟩
    · exact .inl (.inl rfl)
    · cases e : s.heap.get? T with
      | none => exact .inl (.inr ⟨T, rfl, e⟩)
      | some o => exact .inr ⟨T, o, rfl, e⟩
  rcases free with hf | ⟨T, o, rfl, hT⟩
  · exact zl_end hh D hz hf hti hto h1 h2 t1 t2 hn q
  · exact zip_next_end_held hh D hz hT hti h1 h2 t1 t2 hn fun h' e c1 he => q h' e (fun c o n1 _ n3 n4 r => c1 c o n1 n3 n4 r) he
end
end Pb

namespace Pb
open PySem PySem.Spec PyProof.Rows L2 TL
section
variable {prog : Program} {w : World} {A : Around} {E : Value → Shared → Prop} {s : Shared}
abbrev TupAt (h : Heap) (T : Addr) (a b : Value) : Prop := h.get? T = some { cls := .type "tuple", data := .seq #[a, b] }
structure EzAp (e z ti tO i1 i2 : Addr) : Prop where
  z : e ≠ z
  ti : e ≠ ti
  tO : e ≠ tO
  i1 : e ≠ i1
  i2 : e ≠ i2
theorem ez_item {e z ti tO i1 i2 l1 l2 : Addr} {k : Nat} {xs ys : Array Value} {x y a b fl old : Value} {f : Bool} {Q : Value → Shared → Prop} (D : ZipApart z ti tO i1 i2 l1 l2) (N : EzAp e z ti tO i1 i2) (he : IsEnum s.heap e z ((k : Nat) : Int) old) (hz : ZpS s.heap z ti tO fl f) (hf : ZOk fl) (hti : IsPair s.heap ti (.ref i1) (.ref i2)) (hto : IsPair s.heap tO a b)
    (h1 : s.heap.IsListIter i1 l1 k) (h2 : s.heap.IsListIter i2 l2 k) (t1 : s.heap.IsList l1 xs) (t2 : s.heap.IsList l2 ys) (hx : xs[k]? = some x) (hy : ys[k]? = some y)
    (q : ∀ h' fl' f' old', IsEnumOut h' e z ((k : Int) + 1) old' (s.heap.objs.size + 1) → ZpS h' z ti tO fl' f' → ZOk fl' → (∃ a b, IsPair h' tO a b) → h'.IsListIter i1 l1 (k + 1) → h'.IsListIter i2 l2 (k + 1) → TupAt h' s.heap.objs.size x y → TupAt h' (s.heap.objs.size + 1) (.int (k : Nat) s.toks) (.ref s.heap.objs.size) → h'.objs.size = s.heap.objs.size + 2 →
      (∀ c o, c ≠ e → c ≠ z → c ≠ tO → c ≠ i1 → c ≠ i2 → s.heap.get? c = some o → h'.get? c = some o) → Q (.ref (s.heap.objs.size + 1)) { s with heap := h', toks := s.toks + 1 }) :
    wpAny (model prog w) A (Builtin.«enumerate.__next__» ⟨[.ref e], []⟩) (fun fin s' => ∃ v, fin = .done (.ret v) ∧ Q v s') E s := by
  obtain ⟨hp, g, d, tk, os⟩ := s
  show wpAny _ _ (field (.ref e) 2 >>= _) _ _ _
  refine wpAny_bind (wpAny_field he rfl (x := .ref z) rfl ?_)
  refine wpAny_bind (zn_item D hz hf hti hto h1 h2 t1 t2 hx hy fun g1 fl' f' z1 zo po j1 j2 p1 s1 k1 => ?_)
  replace s1 : g1.objs.size = hp.objs.size + 1 := s1
  replace p1 : TupAt g1 hp.objs.size x y := p1
  replace k1 : ∀ c o, c ≠ z → c ≠ tO → c ≠ i1 → c ≠ i2 → hp.get? c = some o → g1.get? c = some o := k1
  have e1 : IsEnum g1 e z (k : Nat) old := k1 _ _ N.z N.tO N.i1 N.i2 he
  show wpAny _ _ (field (.ref e) 3 >>= _) _ _ ⟨g1, g, d, tk, os⟩
  refine wpAny_bind (wpAny_field e1 rfl (x := rawInt (k : Nat)) rfl ?_)
  show wpAny _ _ (field (.ref e) 4 >>= _) _ _ ⟨g1, g, d, tk, os⟩
  refine wpAny_bind (wpAny_field e1 rfl (x := .none) rfl ?_)
  show wpAny _ _ (mkInt (k : Nat) >>= _) _ _ ⟨g1, g, d, tk, os⟩
  refine wpAny_bind (wpAny_mkInt ?_)
  show wpAny _ _ (setField (.ref e) 3 (rawInt ((k : Int) + 1)) >>= _) _ _ ⟨g1, g, d, tk + 1, os⟩
  refine wpAny_bind (wpAny_setField_rec e1 (by simp) fun g2 e2 b2 => ?_)
  replace b2 : Heap.SameBut e g1 g2 := b2
  replace e2 : IsEnum g2 e z ((k : Int) + 1) old := e2
  show wpAny _ _ (setField (.ref e) 4 .none >>= _) _ _ ⟨g2, g, d, tk + 1, os⟩
  refine wpAny_bind (wpAny_setField_rec e2 (by simp) fun g3 e3 b3 => ?_)
  replace b3 : Heap.SameBut e g2 g3 := b3
  replace e3 : IsEnum g3 e z ((k : Int) + 1) old := e3
  show wpAny _ _ (newTuple [.int (k : Nat) tk, .ref hp.objs.size] >>= _) _ _ ⟨g3, g, d, tk + 1, os⟩
  refine wpAny_bind (wpAny_newTuple ?_)
  have e4 : IsEnum (g3.push { cls := .type "tuple", data := .seq #[.int (k : Nat) tk, .ref hp.objs.size] }) e z ((k : Int) + 1) old := Heap.get?_push_of_some _ e3
  generalize hg : g3.push { cls := .type "tuple", data := .seq #[.int (k : Nat) tk, .ref hp.objs.size] } = g4 at e4
  have sz : g3.objs.size = hp.objs.size + 1 := by rw [b3.1, b2.1, s1]
  have le : e < hp.objs.size := Heap.lt_size he
  have t4 : TupAt g4 (hp.objs.size + 1) (.int (k : Nat) tk) (.ref hp.objs.size) := by rw [← hg, ← sz]; exact Heap.get?_push_size _ rfl
  have s4 : g4.objs.size = hp.objs.size + 2 := by rw [← hg, Heap.size_push, sz]
  have k4 : ∀ c o, c ≠ e → g1.get? c = some o → g4.get? c = some o := fun c o n r => by
    rw [← hg]
    exact Heap.get?_push_of_some _ (b3.extBut c o n (b2.extBut c o n r))
  show wpAny _ _ (Builtin.SmallTypes.ownedTupleIsFree (.ref e) >>= _) _ _ ⟨g4, g, d, tk + 1, os⟩
  rw [sz]
  clear hg e3 b3 e2 b2 sz
  refine wpAny_bind ?_
  unfold Builtin.SmallTypes.ownedTupleIsFree
  refine wpAny_bind (wpAny_field e4 rfl (x := .none) rfl (wpAny_pure ?_))
  simp only [if_true]
  refine wpAny_bind (wpAny_rule (wpAny_bind (wpAny_field e4 rfl (x := old) rfl (wpAny_bind (wpAny_setField_rec e4 (by simp) fun g5 e5 b5 => ?_)))))
  replace b5 : Heap.SameBut e g4 g5 := b5
  replace e5 : IsEnum g5 e z ((k : Int) + 1) (.ref hp.objs.size) := e5
  show wpAny _ _ (Builtin.SmallTypes.ownedTupleHandOut (.ref e) (.ref (hp.objs.size + 1)) >>= _) _ _ ⟨g5, g, d, tk + 1, os⟩
  refine wpAny_bind ?_
  unfold Builtin.SmallTypes.ownedTupleHandOut
  refine wpAny_bind (wpAny_setField_rec e5 (by simp) fun g6 e6 b6 => ?_)
  replace b6 : Heap.SameBut e g5 g6 := b6
  replace e6 : IsEnumOut g6 e z ((k : Int) + 1) (.ref hp.objs.size) (hp.objs.size + 1) := e6
  refine wpAny_setField_rec e6 (by simp) fun g7 e7 b7 => ?_
  replace b7 : Heap.SameBut e g6 g7 := b7
  replace e7 : IsEnumOut g7 e z ((k : Int) + 1) (.ref hp.objs.size) (hp.objs.size + 1) := e7
  have k7 : ∀ c o, c ≠ e → g4.get? c = some o → g7.get? c = some o := fun c o n r => b7.extBut c o n (b6.extBut c o n (b5.extBut c o n r))
  have kk : ∀ c o, c ≠ e → g1.get? c = some o → g7.get? c = some o := fun c o n r => k7 c o n (k4 c o n r)
  have ne0 : (hp.objs.size : Nat) ≠ e := Nat.ne_of_gt le
  have ne1 : (hp.objs.size + 1 : Nat) ≠ e := Nat.ne_of_gt (Nat.lt_succ_of_lt le)
  obtain ⟨a', b', o1⟩ := po
  exact wpAny_bind (wpAny_letGo (wpAny_pure ⟨_, rfl, q g7 fl' f' _ e7 (kk _ _ N.z.symm z1) zo ⟨a', b', kk _ _ N.tO.symm o1⟩ (j1.at fun o r => kk _ o N.i1.symm r) (j2.at fun o r => kk _ o N.i2.symm r) (kk _ _ ne0 p1) (k7 _ _ ne1 t4) (by rw [b7.1, b6.1, b5.1, s4]) fun c o n1 n2 n3 n4 n5 r => kk c o n1 (k1 c o n2 n3 n4 n5 r)⟩))
theorem ezn_item {e z ti tO i1 i2 l1 l2 : Addr} {k : Nat} {xs ys : Array Value} {x y a b fl old : Value} {f : Bool} {Q : Option Value → Shared → Prop} (D : ZipApart z ti tO i1 i2 l1 l2) (N : EzAp e z ti tO i1 i2) (he : IsEnum s.heap e z ((k : Nat) : Int) old) (hz : ZpS s.heap z ti tO fl f) (hf : ZOk fl) (hti : IsPair s.heap ti (.ref i1) (.ref i2)) (hto : IsPair s.heap tO a b)
    (h1 : s.heap.IsListIter i1 l1 k) (h2 : s.heap.IsListIter i2 l2 k) (t1 : s.heap.IsList l1 xs) (t2 : s.heap.IsList l2 ys) (hx : xs[k]? = some x) (hy : ys[k]? = some y)
    (q : ∀ h' fl' f' old', IsEnumOut h' e z ((k : Int) + 1) old' (s.heap.objs.size + 1) → ZpS h' z ti tO fl' f' → ZOk fl' → (∃ a b, IsPair h' tO a b) → h'.IsListIter i1 l1 (k + 1) → h'.IsListIter i2 l2 (k + 1) → TupAt h' s.heap.objs.size x y → TupAt h' (s.heap.objs.size + 1) (.int (k : Nat) s.toks) (.ref s.heap.objs.size) → h'.objs.size = s.heap.objs.size + 2 →
      (∀ c o, c ≠ e → c ≠ z → c ≠ tO → c ≠ i1 → c ≠ i2 → s.heap.get? c = some o → h'.get? c = some o) → Q (some (.ref (s.heap.objs.size + 1))) { s with heap := h', toks := s.toks + 1 }) :
    wpAny (model prog w) A (pyNext (.ref e)) Q E s := by
  have ty : s.TypeIs (.ref e) "enumerate" := ⟨_, he, rfl⟩
  unfold pyNext
  exact wpAny_bind (wpAny_attempt (wpAny_callSpecial?_slot (name := Str.ofString "__next__") ty F.slot_enumerate_next (wpAny_call_entry F.slot_enumerate_next ty F.entry_enumerate_next (ez_item D N he hz hf hti hto h1 h2 t1 t2 hx hy fun h' fl' f' old' c1 c2 c3 c4 c5 c6 c7 c8 c9 c10 => wpAny_pure (q h' fl' f' old' c1 c2 c3 c4 c5 c6 c7 c8 c9 c10)) (F.args_enumerate_next_1 _))))
theorem ezn_end {e z ti tO i1 i2 l1 l2 : Addr} {k : Nat} {xs ys : Array Value} {a b fl old : Value} {f : Bool} {Q : Option Value → Shared → Prop} (hh : A.handled = none) (D : ZipApart z ti tO i1 i2 l1 l2) (he : IsEnum s.heap e z ((k : Nat) : Int) old) (hz : ZpS s.heap z ti tO fl f) (hf : ZOk fl) (hti : IsPair s.heap ti (.ref i1) (.ref i2)) (hto : IsPair s.heap tO a b)
    (h1 : s.heap.IsListIter i1 l1 k) (h2 : s.heap.IsListIter i2 l2 k) (t1 : s.heap.IsList l1 xs) (t2 : s.heap.IsList l2 ys) (hn : xs[k]? = none ∨ ys[k]? = none)
    (q : ∀ h', (∀ c o, c ≠ z → c ≠ tO → c ≠ i1 → c ≠ i2 → s.heap.get? c = some o → h'.get? c = some o) → Q none { s with heap := h' }) :
    wpAny (model prog w) A (pyNext (.ref e)) Q E s := by
  have ty : s.TypeIs (.ref e) "enumerate" := ⟨_, he, rfl⟩
  unfold pyNext
  refine wpAny_bind (wpAny_attempt (wpAny_callSpecial?_slot (name := Str.ofString "__next__") ty F.slot_enumerate_next (wpAny_call_entry F.slot_enumerate_next ty F.entry_enumerate_next ?_ (F.args_enumerate_next_1 _))))
  show wpAny _ _ (field (.ref e) 2 >>= _) _ _ _
  refine wpAny_bind (wpAny_field he rfl (x := .ref z) rfl ?_)
  refine wpAny_bind (zn_end hh D hz hf hti hto h1 h2 t1 t2 hn fun h' x he' hx' => ?_)
  obtain ⟨o, ho, hc⟩ := hx'
  exact wpAny_bind (wpAny_isInstance (T := "StopIteration") (b := true) ⟨o, ho, hc⟩ isSubtype_stop (wpAny_pure (q _ he')))
/-! making one -/
theorem meets_enz (z : Addr) (ti tO : Addr) :
    Meets (Builtin.«enumerate.__new__» ⟨[.type "enumerate", .ref z], []⟩) (fun _ R s => ZpS s.heap z ti tO .none false ∧
      R (.ok (.ret (.ref s.heap.objs.size))) { s with heap := s.heap.push { cls := .type "enumerate", data := .fields #[.none, .bool false, .ref z, rawInt 0, .none, .none] } }) :=
  .of_wp fun prog w A R s h => by
    obtain ⟨hp, g, d, tk, os⟩ := s
    obtain ⟨hz, h⟩ := h
    have hsub := sub_enumerate
    have q1 : ∀ {A' : Around} {E : Value → Shared → Prop} {Q : Value → Shared → Prop}, Q (.ref z) ⟨hp, g, d, tk, os⟩ → wpAny (model prog w) A' (pyIter (.ref z)) Q E ⟨hp, g, d, tk, os⟩ := fun q => wpAny_pyIter_zip (s := ⟨hp, g, d, tk, os⟩) hz q
    wp_walk using q1
    refine wpAny_stack_any fun st => wpAny_pure ?_
    split
    · rename_i c _ _ _ _ _
      cases (c == Value.type "enumerate")
      · wp_walk using q1
        exact ⟨_, rfl, h⟩
      · wp_walk using q1
        exact ⟨_, rfl, h⟩
    · wp_walk using q1
      exact ⟨_, rfl, h⟩
theorem call_enz {z ti tO : Addr} {Q : Value → Shared → Prop} (hz : ZpS s.heap z ti tO .none false)
    (h : ∀ h', IsEnum h' s.heap.objs.size z 0 .none → h'.objs.size = s.heap.objs.size + 1 → (∀ b o, s.heap.get? b = some o → h'.get? b = some o) → Q (.ref s.heap.objs.size) { s with heap := h' }) :
    wpAny (model prog w) A (call (.type "enumerate") [.ref z]) Q E s := by
  refine callType_new F.called_enumerate (by decide) (F.typeCall_enumerate_1 _) (F.newCall_enumerate_1 _) (fun obj => F.args_object_init_2 obj _) F.entry_enumerate_new (meets_enz z ti tO) ⟨hz, ?_⟩
  have he : IsEnum (s.heap.push { cls := .type "enumerate", data := .fields #[.none, .bool false, .ref z, rawInt 0, .none, .none] }) s.heap.objs.size z 0 .none := Heap.get?_push_size s.heap rfl
  exact ⟨⟨_, he, rfl⟩, h _ he (Heap.size_push ..) fun b o r => Heap.get?_push_of_some _ r⟩
end
end Pb

namespace Pb
open PySem PySem.Spec PyProof.Rows L2 TL
section
variable {X : Cx} {pins : List (Addr × Obj)} {σ : L2.St} {H : Hp} {s : Shared} {h' : Heap}
/-- our records have turned, and two new things are laid -/
theorem inv_new2 {t' : Nat} {ch : List Addr} {T U : Addr} {ob ob2 : HO} (I : Inv X pins σ H s) (k : ∀ b o, b ∉ ch → s.heap.get? b = some o → h'.get? b = some o) (hf : ∀ b ∈ ch, FpOk X pins H b) (hT : s.heap.objs.size ≤ T) (hU : s.heap.objs.size ≤ U) (ne : T ≠ U)
    (newT : ObjOk X.prog X.w (upd (upd H T ob) U ob2) h' T ob) (newU : ObjOk X.prog X.w (upd (upd H T ob) U ob2) h' U ob2) : Inv X pins σ (upd (upd H T ob) U ob2) { s with heap := h', toks := t' } := by
  have hnT : H T = none := I.hok.fresh hT
  have hnU : H U = none := I.hok.fresh hU
  have stay : ∀ b u, H b = some u → upd (upd H T ob) U ob2 b = some u := fun b u q => by
    rw [upd_ne (ne_of_none q hnU), upd_ne (ne_of_none q hnT)]
    exact q
  have nit : ∀ b u, H b = some u → b ∉ ch := fun b u q r => by
    have z := (hf b r).1
    rw [z] at q
    cases q
  refine I.step (g' := s.gens) (d' := s.drawn) (ch := ch) (fun b hb => ⟨(hf b hb).2.2.2.1, (hf b hb).2.1, (hf b hb).2.2.2.2.1, (hf b hb).2.2.2.2.2⟩) (fun b o _ _ hc q _ => k b o hc q) (fun b o _ _ hc q _ => ⟨o.slots, k b o hc q⟩)
    (fun b o _ q n => ?_) (fun b o hc q => ⟨o, k b o hc q⟩) (fun b xs q => stay _ _ q) (fun b o u q => stay _ _ q) (fun b ps q => ⟨#[], ?_⟩) (fun m hm => ?_) (fun b u q => ?_) I.bare
  · have l := Heap.lt_size q
    rw [upd_ne (Nat.ne_of_lt (Nat.lt_of_lt_of_le l hU)), upd_ne (Nat.ne_of_lt (Nat.lt_of_lt_of_le l hT))]
    exact n
  · rw [stay _ _ q]
    simp
  · obtain ⟨o, es, ep, ho, r⟩ := hm
    exact ⟨o, es, ep, k _ o (fun z => (hf _ z).2.1 rfl) ho, r⟩
  · by_cases hb : b = U
    · subst hb
      rw [upd_same] at q
      cases q
      exact newU
    · rw [upd_ne hb] at q
      by_cases hb2 : b = T
      · subst hb2
        rw [upd_same] at q
        cases q
        exact newT
      · rw [upd_ne hb2] at q
        refine (I.hok b u q).stay (fun c v hc r => k c v ?_ r) (fun c r => stay _ _ r) fun c xs r => stay _ _ r
        rcases hc with z | z
        · rw [z]
          exact nit b u q
        · exact nit c _ z
end
/-- the pairs of two lists, each in a new pair with its number -/
def Itez (K : PySem.W.Frag) (a b : Addr) : It :=
  ⟨fun i H => ∃ (xs ys : List V) (x y : V), SqL K H a xs ∧ SqL K H b ys ∧ xs[i]? = some x ∧ ys[i]? = some y,
    fun i H v H' => ∃ T U x y, v = .ref U ∧ H T = none ∧ upd H T (.tup [x, y]) U = none ∧ H' = upd (upd H T (.tup [x, y])) U (.tup [.int (i : Nat), .ref T]) ∧ (∀ xs, SqL K H a xs → xs[i]? = some x) ∧ ∀ ys, SqL K H b ys → ys[i]? = some y,
    fun i H => ∃ xs ys : List V, SqL K H a xs ∧ SqL K H b ys ∧ (xs.length ≤ i ∨ ys.length ≤ i)⟩
theorem turn_enz {P : Program} {w : World} {K : PySem.W.Frag} {elts : List Expr} {kk : Nat} {tpos : Pos} {a b e z ti tO i1 i2 : Addr} (D : ZipApart z ti tO i1 i2 a b) (N : EzAp e z ti tO i1 i2) :
    Turn P w K (.Tuple elts kk tpos) (Itez K a b) [e, z, ti, tO, i1, i2] e (fun i h => (∃ old, IsEnum h e z ((i : Nat) : Int) old) ∧ (∃ fl f, ZpS h z ti tO fl f ∧ ZOk fl) ∧ IsPair h ti (.ref i1) (.ref i2) ∧ (∃ x y, IsPair h tO x y) ∧ h.IsListIter i1 a i ∧ h.IsListIter i2 b i) where
  mem := by simp
  obj := fun i h st c hc => by
    obtain ⟨⟨old, he⟩, ⟨fl, f, hz, _⟩, hTI, ⟨x, y, hTO⟩, ⟨o1, e1, _, d1⟩, ⟨o2, e2, _, d2⟩⟩ := st
    have e' : c = e ∨ c = z ∨ c = ti ∨ c = tO ∨ c = i1 ∨ c = i2 := by simpa using hc
    rcases e' with q | q | q | q | q | q
    · rw [q]; exact ⟨_, he, fun v q => nomatch q⟩
    · rw [q]; exact ⟨_, hz, fun v q => nomatch q⟩
    · rw [q]; exact ⟨_, hTI, fun v q => nomatch q⟩
    · rw [q]; exact ⟨_, hTO, fun v q => nomatch q⟩
    · rw [q]; exact ⟨o1, e1, fun v q => by rw [d1] at q; cases q⟩
    · rw [q]; exact ⟨o2, e2, fun v q => by rw [d2] at q; cases q⟩
  keep := fun i h h' st k => by
    obtain ⟨⟨old, he⟩, ⟨fl, f, hz, zo⟩, hTI, ⟨x, y, hTO⟩, h1, h2⟩ := st
    exact ⟨⟨old, k e (by simp) _ he⟩, ⟨fl, f, k z (by simp) _ hz, zo⟩, k ti (by simp) _ hTI, ⟨x, y, k tO (by simp) _ hTO⟩, h1.at fun o q => k i1 (by simp) o q, h2.at fun o q => k i2 (by simp) o q⟩
  item := by
    intro X hP hw hK hc i pins s σ H E I hf st hg
    subst hP hw hK
    obtain ⟨⟨old, he⟩, ⟨fl, f, hz, zo⟩, hTI, ⟨x0, y0, hTO⟩, h1, h2⟩ := st
    obtain ⟨xs, ys, x, y, hqx, hqy, hx, hy⟩ := hg
    obtain ⟨its, rv, p, _⟩ := I.list hqx
    obtain ⟨its2, rv2, p2, _⟩ := I.list hqy
    obtain ⟨u, hu, ru⟩ := rv.get hx
    obtain ⟨u2, hu2, ru2⟩ := rv2.get hy
    have hel : e < s.heap.objs.size := Heap.lt_size he
    have lts : ∀ c ∈ [e, z, ti, tO, i1, i2], c < s.heap.objs.size := fun c hcm => by
      have e' : c = e ∨ c = z ∨ c = ti ∨ c = tO ∨ c = i1 ∨ c = i2 := by simpa using hcm
      rcases e' with q | q | q | q | q | q
      · rw [q]; exact hel
      · rw [q]; exact Heap.lt_size hz
      · rw [q]; exact Heap.lt_size hTI
      · rw [q]; exact Heap.lt_size hTO
      · rw [q]; obtain ⟨_, e1, _⟩ := h1; exact Heap.lt_size e1
      · rw [q]; obtain ⟨_, e2, _⟩ := h2; exact Heap.lt_size e2
    refine ezn_item D N he hz zo hTI hTO h1 h2 p.isList p2.isList (x := u) (y := u2) (by simpa using hu) (by simpa using hu2) fun h' fl' f' old' eo zs zo' tos j1 j2 pT pU hsz hk => ?_
    refine ⟨_, rfl, wpAny_letOwnedTupleGo_enum (s := { s with heap := h', toks := s.toks + 1 }) eo fun h'' he' sb => ?_⟩
    have up : ∀ c o, c ≠ e → h'.get? c = some o → h''.get? c = some o := fun c o n q => (sb.2 c n).trans q
    have pT2 : TupAt h'' s.heap.objs.size u u2 := up _ _ (Nat.ne_of_gt hel) pT
    have pU2 : TupAt h'' (s.heap.objs.size + 1) (.int (i : Nat) s.toks) (.ref s.heap.objs.size) := up _ _ (Nat.ne_of_gt (Nat.lt_succ_of_lt hel)) pU
    have kp : ∀ c o, c ∉ [e, z, ti, tO, i1, i2] → s.heap.get? c = some o → h''.get? c = some o := fun c o hb q =>
      up c o (fun q' => hb (by simp [q'])) (hk c o (fun q' => hb (by simp [q'])) (fun q' => hb (by simp [q'])) (fun q' => hb (by simp [q'])) (fun q' => hb (by simp [q'])) (fun q' => hb (by simp [q'])) q)
    have nT : H s.heap.objs.size = none := I.hok.fresh (Nat.le_refl _)
    have nU : H (s.heap.objs.size + 1) = none := I.hok.fresh (Nat.le_succ _)
    have nU1 : upd H s.heap.objs.size (.tup [x, y]) (s.heap.objs.size + 1) = none := by
      rw [upd_ne (Nat.succ_ne_self _)]
      exact nU
    have newT : ObjOk X.prog X.w (upd (upd H s.heap.objs.size (.tup [x, y])) (s.heap.objs.size + 1) (.tup [.int (i : Nat), .ref s.heap.objs.size])) h'' s.heap.objs.size (.tup [x, y]) :=
      ⟨by show 2 ≤ sizeLine; decide, [u, u2], .cons ru (.cons ru2 .nil), ⟨_, pT2, rfl, _, rfl⟩⟩
    have newU : ObjOk X.prog X.w (upd (upd H s.heap.objs.size (.tup [x, y])) (s.heap.objs.size + 1) (.tup [.int (i : Nat), .ref s.heap.objs.size])) h'' (s.heap.objs.size + 1) (.tup [.int (i : Nat), .ref s.heap.objs.size]) :=
      ⟨by show 2 ≤ sizeLine; decide, [.int (i : Nat) s.toks, .ref s.heap.objs.size], .cons ⟨_, rfl⟩ (.cons rfl .nil), ⟨_, pU2, rfl, _, rfl⟩⟩
    have I2 : Inv X pins σ (upd (upd H s.heap.objs.size (.tup [x, y])) (s.heap.objs.size + 1) (.tup [.int (i : Nat), .ref s.heap.objs.size])) { s with heap := h'', toks := s.toks + 1 } := inv_new2 (ch := [e, z, ti, tO, i1, i2]) I kp hf (Nat.le_refl _) (Nat.le_succ _) (Ne.symm (Nat.succ_ne_self _)) newT newU
    refine ⟨.ref (s.heap.objs.size + 1), _, I2, rfl, ⟨s.heap.objs.size, _, x, y, rfl, nT, nU1, rfl, fun l hl => by rw [I.list_inj hl hqx]; exact hx, fun l hl => by rw [I.list_inj hl hqy]; exact hy⟩, ⟨⟨old', ?_⟩, ⟨fl', f', up _ _ N.z.symm zs, zo'⟩, up _ _ N.ti.symm (hk _ _ N.ti.symm D.TIz D.TITO D.TIi1 D.TIi2 hTI), ?_, j1.at fun o q => up _ o N.i1.symm q, j2.at fun o q => up _ o N.i2.symm q⟩, fun c hcm => ?_⟩
    · have e1 : ((i + 1 : Nat) : Int) = (i : Int) + 1 := by omega
      rw [e1]
      exact he'
    · obtain ⟨a', b', q⟩ := tos
      exact ⟨a', b', up _ _ N.tO.symm q⟩
    · have l := lts c hcm
      rw [upd_ne (Nat.ne_of_lt (Nat.lt_succ_of_lt l)), upd_ne (Nat.ne_of_lt l)]
      exact (hf c hcm).1
  done := by
    intro X hP hw hK hc i pins s σ H E I hf st hg
    subst hP hw hK
    obtain ⟨⟨old, he⟩, ⟨fl, f, hz, zo⟩, hTI, ⟨x0, y0, hTO⟩, h1, h2⟩ := st
    obtain ⟨xs, ys, hqx, hqy, hend⟩ := hg
    obtain ⟨its, rv, p, _⟩ := I.list hqx
    obtain ⟨its2, rv2, p2, _⟩ := I.list hqy
    have l1 := rv.length
    have l2 := rv2.length
    have hn : its.toArray[i]? = none ∨ its2.toArray[i]? = none := by
      rcases hend with q | q
      · exact .inl (by simp; omega)
      · exact .inr (by simp; omega)
    exact ezn_end (I.ok.hd hc) D he hz zo hTI hTO h1 h2 p.isList p2.isList hn fun h' hk => ⟨rfl, I.turnedL (t' := s.toks) (ch := [e, z, ti, tO, i1, i2]) (fun c o hb q => hk c o (fun q' => hb (by simp [q'])) (fun q' => hb (by simp [q'])) (fun q' => hb (by simp [q'])) (fun q' => hb (by simp [q'])) q) hf⟩
  self := fun A i s Q E st h => let ⟨⟨_, he⟩, _⟩ := st; wpAny_pyIter_enum he h
def iEnZ (K : PySem.W.Frag) (ta : TA) : TI := fun σ H R => ta σ H fun vs H1 => ∃ a b xs ys, vs = [.ref a, .ref b] ∧ SqL K H1 a xs ∧ SqL K H1 b ys ∧ R (Itez K a b) H1
theorem pi_enz {X : Cx} {e e2 : Expr} {ta : TA} {p pos p2 pos2 tpos : Pos} {elts : List Expr} {kk : Nat} (hg : Gl X "zip") (hm : X.mg "zip" = none) (hg2 : Gl X "enumerate") (hm2 : X.mg "enumerate" = none) (ha : PA X [e, e2] ta)
    (hs : starEach [e, e2] X.env = (false, eval e X.env) :: starEach [e2] X.env := by rfl) (hpl : (backTo pos2 (starEach [e2] X.env)).any (·.1) = false := by rfl) :
    PI X (.Tuple elts kk tpos) (.Call (.Name "enumerate" p) [.Call (.Name "zip" p2) [e, e2] [] pos2] [] pos) (iEnZ X.K ta) := by
  refine ⟨fun pins s σ H R I h => ?_⟩
  refine Call_ (ld_blt I hg2 hm2 boot_enumerate (PyProof.Rows.callWith_type1 ?_ rfl rfl))
  refine args_cons ?_
  refine Call_ (ld_blt I hg hm PyProof.Rows.boot_zip (PyProof.Rows.callWith_type1 (thn (ha.run pos2 pins s σ H _ I h) fun us s1 ⟨vs, H1, I1, r1, q1⟩ => ?_) hs hpl))
  obtain ⟨a, b, xs, ys, ex, hqx, hqy, q⟩ := q1
  subst ex
  cases r1 with
  | cons r rr =>
    cases rr with
    | cons r' rr =>
      cases rr
      cases r
      cases r'
      obtain ⟨its, rv, p1, _⟩ := I1.list hqx
      obtain ⟨its2, rv2, p2, _⟩ := I1.list hqy
      have la : a < s1.heap.objs.size := p1.lt
      have lb : b < s1.heap.objs.size := p2.lt
      refine call_zip_2 p1.isList p2.isList fun h' hz hTI hTO h1 h2 hsz hk => args_nil ?_
      refine call_enz (s := { s1 with heap := h' }) hz fun h'' he hsz2 hk2 => wpAny_pyIter_enum he ?_
      replace he : IsEnum h'' h'.objs.size (s1.heap.objs.size + 4) 0 .none := he
      rw [hsz] at he
      have I2 : Inv X pins σ H1 { s1 with heap := h'' } := I1.kept (t' := s1.toks) fun c o r => hk2 c o (hk c o r)
      have N : EzAp (s1.heap.objs.size + 5) (s1.heap.objs.size + 4) (s1.heap.objs.size + 2) (s1.heap.objs.size + 3) s1.heap.objs.size (s1.heap.objs.size + 1) :=
        ⟨show (s1.heap.objs.size + 5 : Nat) ≠ s1.heap.objs.size + 4 by omega, show (s1.heap.objs.size + 5 : Nat) ≠ s1.heap.objs.size + 2 by omega, show (s1.heap.objs.size + 5 : Nat) ≠ s1.heap.objs.size + 3 by omega, show (s1.heap.objs.size + 5 : Nat) ≠ s1.heap.objs.size by omega, show (s1.heap.objs.size + 5 : Nat) ≠ s1.heap.objs.size + 1 by omega⟩
      show PIE X pins σ _ R (.ref h'.objs.size) { s1 with heap := h'' }
      rw [hsz]
      refine ⟨s1.heap.objs.size + 5, [s1.heap.objs.size + 5, s1.heap.objs.size + 4, s1.heap.objs.size + 2, s1.heap.objs.size + 3, s1.heap.objs.size, s1.heap.objs.size + 1], _, _, H1, rfl, I2, turn_enz (PySem.W.ktu_apart s1.heap.objs.size a b la lb) N, ⟨⟨.none, he⟩, ⟨.none, false, hk2 _ _ hz, .inl rfl⟩, hk2 _ _ hTI, ⟨_, _, hk2 _ _ hTO⟩, h1.at fun o r => hk2 _ o r, h2.at fun o r => hk2 _ o r⟩, fun c hcm => ?_, q⟩
      have e' : c = s1.heap.objs.size + 5 ∨ c = s1.heap.objs.size + 4 ∨ c = s1.heap.objs.size + 2 ∨ c = s1.heap.objs.size + 3 ∨ c = s1.heap.objs.size ∨ c = s1.heap.objs.size + 1 := by simpa using hcm
      have hle : s1.heap.objs.size ≤ c := by
        rcases e' with r | r | r | r | r | r
        · rw [r]; exact Nat.le_add_right _ _
        · rw [r]; exact Nat.le_add_right _ _
        · rw [r]; exact Nat.le_add_right _ _
        · rw [r]; exact Nat.le_add_right _ _
        · rw [r]; exact Nat.le_refl _
        · rw [r]; exact Nat.le_add_right _ _
      exact I1.fpOk hle (I1.hok.fresh hle)
end Pb

namespace Pb
open PySem PySem.Spec PyProof.Rows L2 TL
section
variable {K : PySem.W.Frag} {od : Md} {Γ : List Sl} {n : Nat} {F : Addr → Prop}
def YEz (xs ys : List V) : Nat → Hp → V → Hp → Prop := fun i H v H' => ∃ T U x y, v = .ref U ∧ H T = none ∧ upd H T (.tup [x, y]) U = none ∧ H' = upd (upd H T (.tup [x, y])) U (.tup [.int (i : Nat), .ref T]) ∧ xs[i]? = some x ∧ ys[i]? = some y
theorem walk_enz {a b : Addr} {xs ys : List V} {m : Nat} (hn : m = min xs.length ys.length) : Walk (Itez K a b) m (fun H => SqL K H a xs ∧ SqL K H b ys) (YEz xs ys) := by
  subst hn
  refine ⟨fun i _ hi q => ?_, fun _ q => ⟨xs, ys, q.1, q.2, by omega⟩, fun i H v H' _ q y => ?_⟩
  · have h1 : i < xs.length := by omega
    have h2 : i < ys.length := by omega
    exact ⟨xs, ys, xs[i], ys[i], q.1, q.2, by simp [h1], by simp [h2]⟩
  · obtain ⟨T, U, x, z, h1, h2, h3, h4, h5, h6⟩ := y
    exact ⟨T, U, x, z, h1, h2, h3, h4, h5 xs q.1, h6 ys q.2⟩
theorem enzD {H1 H2 : Hp} {x : V} {xs ys : List V} {i : Nat} {d e : PyData} (y : YEz xs ys i H1 x H2) (h1 : ∀ u, xs[i]? = some u → Dk K F H1 u d) (h2 : ∀ u, ys[i]? = some u → Dk K F H1 u e) : Same H1 H2 ∧ Dk K F H2 x (.tuple [.int (i : Nat), .tuple [d, e]]) := by
  obtain ⟨T, U, u, v, rfl, nT, nU, rfl, g1, g2⟩ := y
  obtain ⟨s, eT⟩ := nxo (o := .tup [u, v]) nT
  have k1 : Dk K F (upd H1 T (.tup [u, v])) (.ref T) (.tuple [d, e]) := .tup (.inl eT) (.cons ((h1 u g1).fk (Same.fk s)) (.cons ((h2 v g2).fk (Same.fk s)) .nil))
  obtain ⟨s2, eU⟩ := nxo (o := .tup [.int (i : Nat), .ref T]) nU
  exact ⟨Same.trans s s2, .tup (.inl eU) (.cons (.int _) (.cons (k1.fk (Same.fk s2)) .nil))⟩
theorem enumD_get {ds : List PyData} {i : Nat} {p : PyData} (h : (enumD ds)[i]? = some p) : ∃ d, ds[i]? = some d ∧ p = .tuple [.int (i : Nat), d] := by
  obtain ⟨d, e, g1, g2, rfl⟩ := zipD_get h
  have := rngD_get g1
  subst this
  exact ⟨e, g2, rfl⟩
theorem enumD_len (ds : List PyData) : (enumD ds).length = ds.length := by
  unfold enumD
  rw [zipD_len, rngD_len, Nat.min_self]
/-- over the pairs of a list that is kept and of a new one, each with its number -/
theorem f_enzKN {t : TA} {ds es : List PyData} (h : EvA K od t Γ [.da (.list ds), .fr es]) : EvF K od (iEnZ K t) Γ (enumD (zipD ds es)) Γ := by
  intro n Q q F B σ H f g R k
  refine h n (fun r m => r = [.da (.list ds), .fr es] ∧ m = n) ⟨rfl, rfl⟩ F B σ H f g _ fun v H1 x m F1 e o1 a1 => ?_
  obtain ⟨rfl, rfl⟩ := e
  obtain ⟨u, w, rfl, a2, a3⟩ := a1.two
  obtain ⟨a, vs, rfl, e1, fa, t1⟩ := Dk.lst' a2
  obtain ⟨b, rfl, l, nb, _, _⟩ := a3
  have f1 := o1.f.grow l.ne_none fun i ho e => f.lstAt (ho.elim fun ds h => ⟨ds, .inl h⟩) e nb
  obtain ⟨us, e2, t2⟩ := l
  refine ⟨a, b, vs, us, rfl, .of e1, .of e2, k _ H1 _ Γ m F1 _ q (o1.gb f) o1.k o1.g (fun _ z => .inl z) f1 ?_⟩
  have wk : Walk (Itez K a b) (enumD (zipD ds es)).length (fun H => SqL K H a vs ∧ SqL K H b us) (YEz vs us) := by rw [enumD_len, zipD_len]; exact walk_enz (K := K) (a := a) (b := b) (xs := vs) (ys := us) (by rw [t1.len, t2.len])
  refine ⟨_, _, wk, fun H2 p => ⟨.of (p.1.2 a vs fa e1), .of (p.lstAt o1.g (.inr rfl) e2)⟩, fun i d H2 x H3 ed p y => ?_⟩
  obtain ⟨p', g0, rfl⟩ := enumD_get ed
  obtain ⟨d, e, g1, g2, rfl⟩ := zipD_get g0
  exact enzD y (fun u hu => (t1.fk p.1).getV hu g1) (fun u hu => (t2.fk p.1).getV hu g2)
end
end Pb

namespace Pb
open PySem PySem.Spec PyProof.Rows L2 TL
abbrev s_first_break : Stmt := top 18
abbrev n_first_break : List Str := ["book", "legs", "closed", "ends", "place", "one", "other", "leg"]
abbrev p_first_break : List Str := ["book", "legs", "closed"]
theorem sc_first_break : FnScope n_first_break p_first_break (defScope s_first_break) := ⟨rfl, rfl, rfl, by decide +kernel, rfl, by decide +kernel, by decide +kernel⟩
theorem secO_isN (o : Option Sec) : isN (secO o) = !o.isSome := by
  cases o <;> rfl
/-- the place of the first pair that isn't joined -/
def brkIx : List (Option (Str × Str) × Option (Str × Str)) → Option Nat
  | [] => none
  | p :: r => if okPair p = true then (brkIx r).map (· + 1) else some 0
def brkD : Option Nat → PyData
  | none => .none
  | some k => .int (k : Nat)
def brkL (ss : List Sec) (ls : List Lg) (cl : Option (List Str)) : Option Nat := brkIx ((ls.map fun l => endsOf ss l cl).zip (ls.map fun l => endsOf ss l cl).tail)
theorem brk_at : ∀ {ps : List (Option (Str × Str) × Option (Str × Str))} {k : Nat} {p : Option (Str × Str) × Option (Str × Str)}, ps[k]? = some p → (∀ q ∈ ps.take k, okPair q = true) → okPair p = false → brkIx ps = some k
  | x :: r, 0, p, e, _, h => by
    cases e
    unfold brkIx
    rw [if_neg (by rw [h]; exact Bool.false_ne_true)]
  | x :: r, k + 1, p, e, hn, h => by
    have hx : okPair x = true := hn x (by rw [List.take_succ_cons]; exact List.mem_cons_self)
    unfold brkIx
    rw [if_pos hx, brk_at (ps := r) (k := k) e (fun q hq => hn q (by rw [List.take_succ_cons]; exact List.mem_cons_of_mem _ hq)) h]
    rfl
theorem brk_no : ∀ {ps : List (Option (Str × Str) × Option (Str × Str))}, (∀ q ∈ ps, okPair q = true) → brkIx ps = none
  | [], _ => rfl
  | x :: r, h => by
    unfold brkIx
    rw [if_pos (h x List.mem_cons_self), brk_no fun q hq => h q (List.mem_cons_of_mem _ hq)]
    rfl
theorem brk_isN : ∀ (ps : List (Option (Str × Str) × Option (Str × Str))), isN (brkD (brkIx ps)) = ps.all okPair
  | [] => rfl
  | x :: r => by
    unfold brkIx
    rw [List.all_cons]
    cases h : okPair x with
    | true =>
      rw [if_pos rfl, Bool.true_and, ← brk_isN r]
      cases brkIx r <;> rfl
    | false =>
      rw [if_neg Bool.false_ne_true, Bool.false_and]
      rfl
def tr_first_break : Tr := fun as P => ∃ (ss : List Sec) (r : D3) (ls : List Lg) (cl : Option (List Str)), as = [.da (bkD ss r), .da (.tuple (ls.map legD)), .da (clD cl)] ∧ ((∀ l ∈ ls, LgOk l) ∧ ls.length ≤ 1000) ∧ P (.da (brkD (brkL ss ls cl)))
section
variable {P : Program} {w : World} {K : PySem.W.Frag} {mg : Str → Option Value} {base : Heap}
theorem kn_first_break (D : DfO K mg "first_break" s_first_break) (B : BG mg) (k_from_to : KnO P w K mg base "from_to" 3 p_from_to (spD K tr_from_to)) (k_are_joined : Kn P w K mg base "are_joined" 1 p_are_joined (spD K tr_are_joined)) : KnO P w K mg base "first_break" 4 p_first_break (spD K tr_first_break) := by
  refine D.knD sc_first_break 2 rfl (fun _ _ _ _ _ _ _ us its l1 l2 => match us, its, l1, l2 with | [_, _, _], [_], _, _ => ⟨_, rfl, rfl⟩) (fun _ _ _ _ _ _ _ us its l1 l2 => match us, its, l1, l2 with | [_, _], [_], _, _ => ⟨_, rfl, rfl⟩) (fun as Q h => by obtain ⟨ss, r, l, cl, rfl, _⟩ := h; rfl) (fun f cdv A outer s H E gd hr => ?_)
  refine ⟨_, PSs.nox (pss_cons (ps_setLc (i := 3) (own := [("leg", 7)]) (g := gName 7) (tt := tYes) (te := tCall (spD K tr_from_to) [] E0 (tCons (tVar 0) (tCons (tVar 7) (tCons (tVar 2) (tNil))))) rfl sc_first_break.nd rfl rfl (sw_true rfl rfl rfl (by decide +kernel)) (pi_tup (pv 1)) (blkOk_by (N := n_first_break) (sc := defScope s_first_break) (by decide +kernel)) (fun _ _ _ _ _ => (pg_name (i := 7) sc_first_break.nd rfl (.inl rfl))) (fun _ _ _ _ _ => pts_nil) (fun _ _ _ _ _ => (pe_knF k_from_to gd (hr.mono (by decide)) rfl (pa_cons (pv 0) (pa_cons (pv 7) (pa_cons (pv 2) pa_nil)))))) (pss_cons (ps_for PassesOwn.never rfl (pi_enz rfl B.zip rfl B.enumerate (pa_cons (pv 3) (pa_cons (pe_slice sl_list (pv 3) (po_some pe_int) po_none) pa_nil))) (pg_tup rfl (pgs_cons (pg_name (i := 4) sc_first_break.nd rfl (.inl rfl)) (pgs_cons (pg_tup rfl (pgs_cons (pg_name (i := 5) sc_first_break.nd rfl (.inl rfl)) (pgs_cons (pg_name (i := 6) sc_first_break.nd rfl (.inl rfl)) pgs_nil))) pgs_nil))) (pss_one (ps_if (PW.pt (pw_and (pt_cmp (pc_notN (pv 5))) (pw_and (pt_cmp (pc_notN (pv 6))) (pw_and1 (pt_not (pt_val (pe_kn k_are_joined gd (hr.mono (by decide)) rfl (pa_cons (pv 5) (pa_cons (pv 6) pa_nil))))))))) (pss_one (ps_ret (pv 4))) pss_nil))) (pss_one (ps_ret pe_non)))), fun as Q h => ?_⟩
  try dsimp only [cxOf]
  obtain ⟨ss, r, ls, cl, rfl, ⟨lo, ll⟩, q⟩ := h
  refine s_seq (s_set (Ev.w (ev_lc (i_tup (ev_v rfl)) (by omega) (fun x hx N hN => (g_name (by decide) hN)) (fun x hx => ev_yes) (fun x hx hp => (ev_call (ev_cons (ev_v rfl) (ev_cons (ev_v rfl) (ev_cons (ev_v rfl) ev_nil))) rfl (fun _ hp => ⟨_, _, _, _, rfl, (lo x hx), hp⟩))) (fun x hx hp => rfl)) ?_))
  rw [filt]
  refine s_keep (i := 3) rfl ?_
  have ee : (ls.map fun x => endD (endsOf ss x cl)) = (ls.map fun l => endsOf ss l cl).map endD := by rw [List.map_map]; rfl
  rw [ee]
  unfold brkL at q
  generalize (ls.map fun l => endsOf ss l cl) = es at q
  have zz : zipD (es.map endD) (es.tail.map endD) = (es.zip es.tail).map fun p => PyData.tuple [endD p.1, endD p.2] := by
    unfold zipD
    rw [List.zip_map, List.map_map]
    rfl
  refine s_seq (s_for (own := [4, 5, 6]) (f_enzKN (es := (es.tail).map endD) (ev_cons (ev_v rfl) (ev_cons (Ev.eq (ev_sl (ev_v rfl) (ev_pt ev_int) ev_np (d_slL rfl)) (by rw [cutD_tail, List.map_tail])) ev_nil)) _ _ ⟨fun k Γ' _ => ∃ x y z, Γ' = [.da (bkD ss r), .da (.tuple (ls.map legD)), .da (clD cl), .da (.list (es.map endD)), x, y, z, .no] ∧ ∀ p ∈ (es.zip es.tail).take k, okPair p = true, ⟨.no, .no, .no, rfl, fun s hs => nomatch hs⟩, fun k d Γ' m hd hI => ?_, fun Γ' m hI => ?_⟩))
  · obtain ⟨x, y, z, rfl, hno⟩ := hI
    obtain ⟨p', hd1, rfl⟩ := enumD_get hd
    rw [zz] at hd1
    obtain ⟨⟨a, b⟩, hp, rfl⟩ := map_get hd1
    refine g_tup rfl (g_cons (g_name (by decide) (g_cons (g_tup rfl (g_cons (g_name (by decide) (g_cons (g_name (by decide) (g_nil (g_nil ?_)))))))))) 
    cases a with
    | none => exact s_ite (ev_and (c := false) (ev_tB (ev_notN (d := .none) (ev_v rfl))) (fun hc => by cases hc)) (fun hc => by cases hc) (fun hc => s_next ⟨_, _, _, rfl, take_snoc hp hno rfl⟩)
    | some a =>
      cases b with
      | none => exact s_ite (ev_and (ev_tB (ev_notN (ev_v rfl))) (fun _ => ev_and (c := false) (ev_tB (ev_notN (d := .none) (ev_v rfl))) (fun hc => by cases hc))) (fun hc => by cases hc) (fun hc => s_next ⟨_, _, _, rfl, take_snoc hp hno rfl⟩)
      | some b =>
        refine s_ite (ev_and (b := true) (ev_tB (ev_notN (d := endD (some a)) (ev_v rfl))) (fun _ => ev_and (b := true) (ev_tB (ev_notN (d := endD (some b)) (ev_v rfl))) (fun _ => ev_not (ev_tB (ev_call (ev_cons (ev_v rfl) (ev_cons (ev_v rfl) ev_nil)) rfl (fun _ hp => ⟨some a, some b, rfl, trivial, hp⟩)))))) (fun hc => s_ret (Ev.w (ev_v rfl) ⟨_, rfl, ?_⟩)) (fun hc => s_next ⟨_, _, _, rfl, take_snoc hp hno ?_⟩)
        · have hb : okPair (some a, some b) = false := by
            have h2 : (!decide (a.2 = b.1)) = true := hc
            show decide (a.2 = b.1) = false
            rw [Bool.not_eq_true'] at h2
            exact h2
          rw [brk_at hp hno hb] at q
          exact q
        · have h2 : (!decide (a.2 = b.1)) = false := hc
          show decide (a.2 = b.1) = true
          rw [Bool.not_eq_false'] at h2
          exact h2
  · obtain ⟨x, y, z, rfl, hno⟩ := hI
    have ln : (enumD (zipD (es.map endD) (es.tail.map endD))).length = (es.zip es.tail).length := by
      rw [enumD_len, zipD_len, List.length_map, List.length_map, List.length_zip]
    rw [ln, List.take_length] at hno
    refine s_ret (Ev.w ev_non ⟨_, rfl, ?_⟩)
    rw [brk_no hno] at q
    exact q
theorem kn_meets (D : DfO K mg "meets" s_meets) (B : BG mg) (k_first_break : KnO P w K mg base "first_break" 4 p_first_break (spD K tr_first_break)) : KnO P w K mg base "meets" 5 p_meets (spD K tr_meets) := by
  refine D.knD sc_meets 2 rfl (fun _ _ _ _ _ _ _ us its l1 l2 => match us, its, l1, l2 with | [_, _, _], [_], _, _ => ⟨_, rfl, rfl⟩) (fun _ _ _ _ _ _ _ us its l1 l2 => match us, its, l1, l2 with | [_, _], [_], _, _ => ⟨_, rfl, rfl⟩) (fun as Q h => by obtain ⟨ss, r, l, cl, rfl, _⟩ := h; rfl) (fun f cdv A outer s H E gd hr => ?_)
  refine ⟨_, PSs.nox (pss_one (ps_ret (pe_cmp (pc_isN (pe_knF k_first_break gd (hr.mono (by decide)) rfl (pa_cons (pv 0) (pa_cons (pv 1) (pa_cons (pv 2) pa_nil)))))))), fun as Q h => ?_⟩
  try dsimp only [cxOf]
  obtain ⟨ss, r, ls, cl, rfl, lo, q⟩ := h
  refine s_ret (Ev.w (ev_isN (ev_call (ev_cons (ev_v rfl) (ev_cons (ev_v rfl) (ev_cons (ev_v rfl) ev_nil))) rfl (fun _ hp => ⟨_, _, _, _, rfl, (lo), hp⟩))) ⟨_, rfl, ?_⟩)
  have e : isN (brkD (brkL ss ls cl)) = soundL ss ls cl := brk_isN _
  rw [e]
  exact q
theorem kn_counted (D : DfO K mg "counted" s_counted) (B : BG mg) (k_meets : KnO P w K mg base "meets" 5 p_meets (spD K tr_meets)) (k_section_for : Kn P w K mg base "section_for" 2 p_section_for (spD K tr_section_for)) : KnO P w K mg base "counted" 6 p_counted (spD K tr_counted) := by
  refine D.knD sc_counted 2 rfl (fun _ _ _ _ _ _ _ us its l1 l2 => match us, its, l1, l2 with | [_, _, _], [_], _, _ => ⟨_, rfl, rfl⟩) (fun _ _ _ _ _ _ _ us its l1 l2 => match us, its, l1, l2 with | [_, _], [_], _, _ => ⟨_, rfl, rfl⟩) (fun as Q h => by obtain ⟨ss, r, l, cl, rfl, _⟩ := h; rfl) (fun f cdv A outer s H E gd hr => ?_)
  refine ⟨_, PSs.nox (pss_cons (ps_if (pt_not (pt_val (pe_knF k_meets gd (hr.mono (by decide)) rfl (pa_cons (pv 0) (pa_cons (pv 1) (pa_cons (pv 2) pa_nil)))))) (pss_one (ps_ret (pe_lst pa_nil))) pss_nil) (pss_one (ps_ret (pe_lc (own := [("leg", 3)]) (g := gName 3) (tt := tB (tNotN (tCall (spD K tr_section_for) [] E0 (tCons (tVar 0) (tCons (tVar 3) (tCons (tVar 2) (tNil))))))) (te := tVar 3) rfl sc_counted.nd (pi_tup (pv 1)) (blkOk_by (N := n_counted) (sc := defScope s_counted) (by decide +kernel)) (fun _ _ _ _ _ => (pg_name (i := 3) sc_counted.nd rfl (.inl rfl))) (fun _ _ _ _ _ => (pts_one (pt_cmp (pc_notN (pe_kn k_section_for gd (hr.mono (by decide)) rfl (pa_cons (pv 0) (pa_cons (pv 3) (pa_cons (pv 2) pa_nil)))))))) (fun _ _ _ _ _ => (pv 3)))))), fun as Q h => ?_⟩
  try dsimp only [cxOf]
  obtain ⟨ss, r, ls, cl, rfl, ⟨lo, ll⟩, q⟩ := h
  unfold cntL at q
  refine s_seq (s_ite (ev_not (ev_tB (ev_call (ev_cons (ev_v rfl) (ev_cons (ev_v rfl) (ev_cons (ev_v rfl) ev_nil))) rfl (fun _ hp => ⟨_, _, _, _, rfl, (⟨lo, ll⟩), hp⟩)))) (fun hc => s_ret (Ev.w (ev_lst ev_nil rfl (Nat.le_of_ble_eq_true rfl)) ⟨_, rfl, ?_⟩)) (fun hc => s_next ?_))
  · rw [Bool.not_eq_true'] at hc
    rw [hc] at q
    exact q
  · rw [Bool.not_eq_false'] at hc
    rw [hc, if_pos rfl] at q
    refine s_ret (Ev.w (ev_lc (i_tup (ev_v rfl)) (by omega) (fun x hx N hN => (g_name (by decide) hN)) (fun x hx => (ev_tB (ev_notN (ev_call (ev_cons (ev_v rfl) (ev_cons (ev_v rfl) (ev_cons (ev_v rfl) ev_nil))) rfl (fun _ hp => ⟨_, _, _, _, rfl, (lo x hx), hp⟩))))) (fun x hx hp => (ev_v rfl)) (fun x hx hp => rfl)) ⟨_, rfl, ?_⟩)
    have e : (fun l => (secFor ss l cl).isSome) = fun x => !isN (secO (secFor ss x cl)) := by
      funext x
      rw [secO_isN, Bool.not_not]
    rw [e] at q
    exact q
end
end Pb

namespace Pb
open PySem PySem.Spec PyProof.Rows L2 TL
/-! ### words drawn -/
def tr_l_words : TrR := fun as n Q => ∃ m : Int, as = [.dw, .da (.int m)] ∧ (0 ≤ m ∧ m ≤ 60 ∧ n + 1200 < 2 ^ 40) ∧ ∀ ws : List Str, ((ws.length : Int) = m ∧ (∀ y ∈ ws, Nm y) ∧ ws.Nodup) → Q (.fr (ws.map .str)) (n + 1200)
def tenS : List Str := ["ride", "book", "closed", "walk", "section", "halts", "beside", "badge", "length", "climb"]
theorem tenS_split : Txt.split "ride book closed walk section halts beside badge length climb" " " = tenS := by decide +kernel
theorem tenS_nm {y : Str} (h : y ∈ tenS) : Nm y := by
  have : ∀ y ∈ tenS, (y.cps.toList.all fun c => decide (97 ≤ c ∧ c ≤ 122)) = true ∧ 1 ≤ y.cps.toList.length ∧ y.cps.toList.length ≤ 8 := by decide +kernel
  obtain ⟨h1, h2⟩ := this y h
  exact ⟨fun c hc => of_decide_eq_true (List.all_eq_true.mp h1 c hc), h2⟩
abbrev s_l_words : Stmt := top 29
abbrev n_l_words : List Str := ["_law_draw", "_law_many", "_law_letters", "_law_found", "_law_size", "_law_word", "_law_words_here", "_law_rest", "_law_k", "_law_one"]
abbrev p_l_words : List Str := ["_law_draw", "_law_many"]
theorem sc_l_words : FnScope n_l_words p_l_words (defScope s_l_words) := ⟨rfl, rfl, rfl, by decide +kernel, rfl, by decide +kernel, by decide +kernel⟩
theorem restE : ((List.range 676).map fun k : Nat => PyData.str ((⟨#[ltN (((0 : Int) + (k : Nat)) / 26).toNat]⟩ : Str) ++ ⟨#[ltN (((0 : Int) + (k : Nat)) % 26).toNat]⟩)) = restL.map .str := by
  unfold restL
  rw [List.map_map]
  refine List.map_congr_left fun k hk => ?_
  have e1 : (((0 : Int) + (k : Nat)) / 26).toNat = k / 26 := by omega
  have e2 : (((0 : Int) + (k : Nat)) % 26).toNat = k % 26 := by omega
  rw [e1, e2]
  rfl
section
variable {P : Program} {w : World} {K : PySem.W.Frag} {mg : Str → Option Value} {base : Heap}
theorem kn_l_words (D : Df K mg "_law_words" s_l_words) (B : BG mg) (k_l_next : Kn P w K mg base "_law_next" 2 ["_law_draw", "_law_many"] (spR K trNext)) : Kn P w K mg base "_law_words" 3 p_l_words (spR K tr_l_words) := by
  refine D.knR sc_l_words (fun _ _ _ _ _ _ us hl => match us, hl with | [_, _], _ => rfl) (fun as n Q h => by obtain ⟨m, rfl, _⟩ := h; rfl) (fun f cdv A outer s H E gd hr => ?_)
  refine ⟨_, PSs.nox (pss_cons (ps_set (i := 2) sc_l_words.nd rfl (.inr rfl) pe_str) (pss_cons (ps_set (i := 3) sc_l_words.nd rfl (.inr rfl) (pe_lst pa_nil)) (pss_cons (ps_while PassesOwn.never (pt_cmpR op_lt (pe_callB call_len_seq rfl B.len PySem.boot_len (pa_cons (pv 3) pa_nil)) (pv 1) (nomark _)) (pss_cons (ps_set (i := 4) sc_l_words.nd rfl (.inl rfl) (pe_ix ix_list (pe_lst (pa_cons (pe_op op_add pe_int (pe_kn k_l_next gd (hr.mono (by decide)) rfl (pa_cons (pv 0) (pa_cons pe_int pa_nil)))) (pa_cons (pe_op op_add pe_int (pe_kn k_l_next gd (hr.mono (by decide)) rfl (pa_cons (pv 0) (pa_cons pe_int pa_nil)))) (pa_cons pe_int pa_nil)))) (pe_kn k_l_next gd (hr.mono (by decide)) rfl (pa_cons (pv 0) (pa_cons pe_int pa_nil))) (fun _ _ => rfl))) (pss_cons (ps_set (i := 5) sc_l_words.nd rfl (.inl rfl) (pe_join pe_str (pe_lc (own := [("_law_k", 8)]) (g := gName 8) (tt := tYes) (te := tOp rIxS (tVar 2) (tCall (spR K trNext) [] E0 (tCons (tVar 0) (tCons (tC (.int 26)) (tNil))))) rfl sc_l_words.nd (pi_range1 rfl B.range (pa_cons (pv 4) pa_nil)) (blkOk_by (N := n_l_words) (sc := defScope s_l_words) (by decide +kernel)) (fun _ _ _ _ _ => (pg_name (i := 8) sc_l_words.nd rfl (.inl rfl))) (fun _ _ _ _ _ => pts_nil) (fun _ _ _ _ _ => (pe_ix ix_str (pv 2) (pe_kn k_l_next gd (hr.mono (by decide)) rfl (pa_cons (pv 0) (pa_cons pe_int pa_nil))) (fun _ _ => rfl)))))) (pss_cons (ps_if (pt_cmpR op_eq (pe_kn k_l_next gd (hr.mono (by decide)) rfl (pa_cons (pv 0) (pa_cons pe_int pa_nil))) pe_int (nomark _)) (pss_cons (ps_set (i := 6) sc_l_words.nd rfl (.inl rfl) (pe_split pe_str pe_str)) (pss_one (ps_set (i := 5) sc_l_words.nd rfl (.inl rfl) (pe_ix ix_list (pv 6) (pe_kn k_l_next gd (hr.mono (by decide)) rfl (pa_cons (pv 0) (pa_cons pe_int pa_nil))) (fun _ _ => rfl))))) pss_nil) (pss_cons (ps_if (pt_cmpR op_in_seq (pv 5) (pv 3) rfl) (pss_cons (ps_setLc (i := 7) (own := [("_law_k", 8)]) (g := gName 8) (tt := tYes) (te := tOp rAddS (tOp rIxS (tVar 2) (tOp (rI CDiv fun i j => .int (i / j)) (tVar 8) (tC (.int 26)))) (tOp rIxS (tVar 2) (tOp (rI (fun _ j => 0 < j) fun i j => .int (i % j)) (tVar 8) (tC (.int 26))))) rfl sc_l_words.nd rfl rfl (sw_true rfl rfl rfl (by decide +kernel)) (pi_range1 rfl B.range (pa_cons pe_int pa_nil)) (blkOk_by (N := n_l_words) (sc := defScope s_l_words) (by decide +kernel)) (fun _ _ _ _ _ => (pg_name (i := 8) sc_l_words.nd rfl (.inl rfl))) (fun _ _ _ _ _ => pts_nil) (fun _ _ _ _ _ => (pe_op op_add_str (pe_ix ix_str (pv 2) (pe_op op_fdiv (pv 8) pe_int) (fun _ _ => rfl)) (pe_ix ix_str (pv 2) (pe_op op_mod (pv 8) pe_int) (fun _ _ => rfl))))) (pss_one (ps_set (i := 5) sc_l_words.nd rfl (.inl rfl) (pe_ix ix_list (pe_lc (own := [("_law_one", 9)]) (g := gName 9) (tt := tTest (tOp (rIn K true) (tVar 9) (tVar 3))) (te := tVar 9) rfl sc_l_words.nd (pi_list (pv 7)) (blkOk_by (N := n_l_words) (sc := defScope s_l_words) (by decide +kernel)) (fun _ _ _ _ _ => (pg_name (i := 9) sc_l_words.nd rfl (.inl rfl))) (fun _ _ _ _ _ => (pts_one (pt_cmpR op_notIn_seq (pv 9) (pv 3) rfl))) (fun _ _ _ _ _ => (pv 9))) (pe_kn k_l_next gd (hr.mono (by decide)) rfl (pa_cons (pv 0) (pa_cons pe_int pa_nil))) (fun _ _ => rfl))))) pss_nil) (pss_one (ps_expr (pe_bm PySem.F.plainAttrs_list PySem.F.slot_list_append PySem.F.type_list_append mt_append (pv 3) (pa_cons (pv 5) pa_nil))))))))) (pss_one (ps_ret (pv 3)))))), fun p as n Q h => ?_⟩
  dsimp only [cxOf]
  obtain ⟨mm, rfl, ⟨m0, m60, hn⟩, q⟩ := h
  have ho : (some p : Md) ≠ none := fun z => nomatch z
  refine s_seq (s_set (Ev.w ev_str (s_seq (s_set (Ev.w (ev_lst ev_nil rfl (Nat.le_of_ble_eq_true rfl)) ?_)))))
  refine s_seqJ (fun Γ' n' => ∃ ws : List Str, ∃ x4 x5 x6 x7, Γ' = [.dw, .da (.int mm), .da (.str ltrS), .own (ws.map .str), x4, x5, x6, x7, .no, .no] ∧ (ws.length : Int) = mm ∧ (∀ y ∈ ws, Nm y) ∧ ws.Nodup ∧ n' ≤ n + 20 * ws.length) ?_ (fun Γ' n' hJ => ?_)
  · refine s_while (fun m Γ' n' => ∃ ws : List Str, ∃ x4 x5 x6 x7, Γ' = [.dw, .da (.int mm), .da (.str ltrS), .own (ws.map .str), x4, x5, x6, x7, .no, .no] ∧ (ws.length : Int) + (m : Nat) = mm ∧ (∀ y ∈ ws, Nm y) ∧ ws.Nodup ∧ n' ≤ n + 20 * ws.length) ⟨mm.toNat, [], .no, .no, .no, .no, rfl, by show (0 : Int) + _ = _; omega, (fun _ z => nomatch z), List.nodup_nil, Nat.le_refl _⟩ (fun m Γ' n' hI => ?_)
    obtain ⟨ws, x4, x5, x6, x7, rfl, wl, wn, nd, hn'⟩ := hI
    refine (ev_test (ev_op (ev_cb (ev_cons (ev_v rfl) ev_nil) (d_len rfl)) (ev_v rfl) d_ib)) _ _ ?_
    rw [List.length_map]
    by_cases hlt : (ws.length : Int) < mm
    · rw [decide_eq_true hlt]
      refine iteT ?_
      refine s_up hn' (s_seq (s_set (w_op (w_lst (w_cons (w_op (Ev.w ev_int (w_nextC ho rfl ⟨by decide, by decide⟩ (by omega) (fun v1 v1a v1b => ⟨_, d_ii, (w_cons (w_op (Ev.w ev_int (w_nextC ho rfl ⟨by decide, by decide⟩ (by omega) (fun v2 v2a v2b => ⟨_, d_ii, (w_cons (Ev.w ev_int (w_nil ⟨_, rfl, Nat.le_of_ble_eq_true rfl, (w_nextC ho rfl ⟨by decide, by decide⟩ (by omega) (fun v3 v3a v3b => ⟨_, d_ixL rfl (at3i v3a v3b), ?_⟩))⟩)))⟩)))))⟩)))))))))
      have hz : 1 ≤ pk3 v3 (1 + v1) (1 + v2) 8 ∧ pk3 v3 (1 + v1) (1 + v2) 8 ≤ 8 := pk3_in (P := fun z => 1 ≤ z ∧ z ≤ 8) ⟨by omega, by omega⟩ ⟨by omega, by omega⟩ ⟨by omega, by omega⟩
      generalize pk3 v3 (1 + v1) (1 + v2) 8 = sz at hz
      -- the word
      refine s_seq (s_set (w_join (Ev.w ev_str ⟨_, rfl, w_lc ((i_rng1 (ev_cons (ev_v rfl) ev_nil) (⟨by omega, by omega⟩)) _ _ ⟨?_, fun i acc m' => ∃ cs : List Nat, acc = cs.map (fun c => PyData.str (sg c)) ∧ cs.length = i ∧ (∀ c ∈ cs, 97 ≤ c ∧ c ≤ 122) ∧ m' = n + 20 * ws.length + 1 + 1 + 1 + i, ⟨[], rfl, rfl, (fun _ z => nomatch z), rfl⟩, fun i acc m' hI => ?_, fun i d acc m' hd hI => ?_, fun acc m' hI => ?_⟩)⟩)))
      · rw [rngD_len]
        omega
      · obtain ⟨cs, rfl, cl, _⟩ := hI
        rw [List.length_map]
        omega
      · obtain ⟨cs, rfl, cl, ca, rfl⟩ := hI
        have hi8 : i < 8 := by
          have := (List.getElem?_eq_some_iff.mp hd).1
          rw [rngD_len] at this
          omega
        refine g_name (by decide) (ev_yes _ _ (iteT (w_op (Ev.w (ev_v rfl) (w_nextC ho rfl ⟨by decide, by decide⟩ (by omega) (fun k1 k1a k1b => ⟨_, d_ixS (by decide +kernel) (at_ltrS k1a k1b), ?_⟩))))))
        refine ⟨_, rfl, cs ++ [ltN k1.toNat], by rw [List.map_append]; rfl, by rw [List.length_append, cl]; rfl, fun c hc => ?_, by omega⟩
        rcases List.mem_append.mp hc with z | z
        · exact ca c z
        · rw [List.mem_singleton.mp z, ltN_eq _ (by omega)]
          omega
      obtain ⟨cs, rfl, cl, ca, rfl⟩ := hI
      rw [rngD_len] at cl ⊢
      have csl : 1 ≤ cs.length ∧ cs.length ≤ 8 := by omega
      refine ⟨cs.map sg, by show some _ = some _; rw [List.map_map]; rfl, ?_, ?_⟩
      · rw [join_sum]
        omega
      have nmw : Nm (Txt.join "" (cs.map sg)) := nm_join ca csl.1 csl.2
      generalize Txt.join "" (cs.map sg) = wd at nmw
      rw [show sz.toNat = cs.length from cl.symm]
      -- one of ten at times
      refine s_seqJ (fun Γ' n2 => ∃ y z6, Γ' = [.dw, .da (.int mm), .da (.str ltrS), .own (ws.map .str), .da (.int sz), .da (.str y), z6, x7, .no, .no] ∧ Nm y ∧ n2 ≤ n + 20 * ws.length + 13) ?_ (fun Γ' n2 hJ => ?_)
      · refine s_if (w_test (w_op (w_nextC ho rfl ⟨by decide, by decide⟩ (by omega) (fun v ha hb => Ev.w ev_int ⟨_, d_eqI, _, rfl, ?_⟩))))
        by_cases hv : v = 0
        · rw [decide_eq_true hv]
          refine iteT (s_seq (s_set (Ev.w (ev_split ev_str ev_str (by decide +kernel) (by decide +kernel) tenS_split) ?_)))
          refine s_set (w_op (Ev.w (ev_v rfl) (w_nextC ho rfl ⟨by decide, by decide⟩ (by omega) (fun u ua ub => ?_))))
          obtain ⟨y, ym, ye⟩ := at_any (xs := tenS) ua ub
          exact ⟨_, d_ixL rfl (at_map ye), y, _, rfl, tenS_nm ym, by omega⟩
        · rw [decide_eq_false hv]
          exact iteF (s_next ⟨wd, _, rfl, nmw, by omega⟩)
      obtain ⟨y, z6, rfl, yn, hn2⟩ := hJ
      -- another one, where it was drawn before
      refine s_seqJ (fun Γ' n3 => ∃ y z6 z7, Γ' = [.dw, .da (.int mm), .da (.str ltrS), .own (ws.map .str), .da (.int sz), .da (.str y), z6, z7, .no, .no] ∧ Nm y ∧ y ∉ ws ∧ n3 ≤ n + 20 * ws.length + 14) ?_ (fun Γ' n3 hJ => ?_)
      · refine s_ite (ev_test (ev_op (ev_v rfl) (ev_v rfl) (d_inS rfl))) (fun hc => ?_) (fun hc => s_next ⟨y, _, _, rfl, yn, of_decide_eq_false hc, by omega⟩)
        refine s_seq (s_set (Ev.w (Ev.eq (b' := .fr (restL.map .str)) (ev_lc (i_rng1 (ev_cons ev_int ev_nil) (⟨by decide, by decide⟩)) (Nat.le_of_ble_eq_true rfl) (fun x hx N hN => (g_name (by decide) hN)) (fun x hx => ev_yes) (fun x hx hp => (ev_op (ev_op (ev_v rfl) (ev_op (ev_v rfl) ev_int (d_iic (⟨by decide, by decide⟩))) (d_ixS (by decide +kernel) (at_ltrS (by have := List.mem_range.mp hx; omega) (by have := List.mem_range.mp hx; omega)))) (ev_op (ev_v rfl) (ev_op (ev_v rfl) ev_int (d_iic (by decide))) (d_ixS (by decide +kernel) (at_ltrS (by omega) (by omega)))) (d_addS (Nat.le_of_ble_eq_true rfl)))) (fun x hx hp => rfl)) (congrArg Rs.fr (by rw [filt]; exact restE))) ?_))
        refine s_set (w_op (Ev.w (ev_lc (i_lst (ev_v rfl) rfl) (Nat.le_of_ble_eq_true rfl) (fun x hx N hN => (g_name (by decide) hN)) (fun x hx => (ev_test (ev_op (ev_v rfl) (ev_v rfl) (d_ninS rfl)))) (fun x hx hp => (ev_v rfl)) (fun x hx hp => rfl)) (w_nextC ho rfl ⟨by decide, by decide⟩ (by omega) (fun u ua ub => ?_))))
        have ln := less_len ws restL restL_nd
        have l676 : restL.length = 676 := by
          unfold restL
          rw [List.length_map, List.length_range]
        obtain ⟨y2, ym, ye⟩ := at_any (xs := restL.filter fun x => !decide (x ∈ ws)) ua (by omega)
        obtain ⟨ym1, ym2⟩ := List.mem_filter.mp ym
        refine ⟨_, d_ixL rfl (at_map ye), y2, _, _, rfl, restL_nm ym1, ?_, by omega⟩
        rw [Bool.not_eq_true'] at ym2
        exact of_decide_eq_false ym2
      obtain ⟨y, z6, z7, rfl, yn, yw, hn3⟩ := hJ
      refine s_append (i := 3) rfl (Ev.w (ev_v rfl) ⟨_, rfl, ?_, m - 1, by omega, ws ++ [y], _, _, _, _, by rw [List.map_append]; rfl, ?_, fun x hx => ?_, ?_, ?_⟩)
      · rw [List.length_map]
        omega
      · rw [List.length_append]
        show ((ws.length + 1 : Nat) : Int) + _ = mm
        omega
      · rcases List.mem_append.mp hx with z | z
        · exact wn x z
        · rw [List.mem_singleton.mp z]
          exact yn
      · rw [List.nodup_append]
        refine ⟨nd, List.nodup_cons.mpr ⟨(fun z => nomatch z), List.nodup_nil⟩, fun a ha b hb e => ?_⟩
        rw [List.mem_singleton.mp hb] at e
        exact yw (by rw [← e]; exact ha)
      · rw [List.length_append]
        show n3 ≤ n + 20 * (ws.length + 1)
        omega
    · rw [decide_eq_false hlt]
      exact iteF ⟨ws, x4, x5, x6, x7, rfl, by omega, wn, nd, hn'⟩
  · obtain ⟨ws, x4, x5, x6, x7, rfl, wl, wn, nd, hn'⟩ := hJ
    refine s_up (m := n + 1200) (by omega) (s_ret (Ev.w (ev_v rfl) ⟨_, rfl, q ws ⟨wl, wn, nd⟩⟩))
end
end Pb

namespace Pb
open PySem PySem.Spec PyProof.Rows L2 TL
/-! ### sections drawn -/
def TrOk (t : Tri) : Prop := 1 ≤ t.1 ∧ t.1 ≤ 999 ∧ 0 ≤ t.2.1 ∧ t.2.1 ≤ 999 ∧ 0 ≤ t.2.2 ∧ t.2.2 ≤ 999
def tr_l_stretch : TrR := fun as n Q => as = [.dw] ∧ n + 4 < 2 ^ 40 ∧ ∀ t : Tri, TrOk t → Q (.da (triD t)) (n + 4)
theorem trOk {a b c : Int} (h1 : 1 ≤ a) (h2 : a ≤ 999) (h3 : 0 ≤ b) (h4 : b ≤ 999) (h5 : 0 ≤ c) (h6 : c ≤ 999) : TrOk (a, b, c) := ⟨h1, h2, h3, h4, h5, h6⟩
structure SecG (s : Sec) (pool : List Str) : Prop where
  l1 : s.ms.length = s.ts.length + 1
  l2 : 2 ≤ s.ms.length
  l8 : s.ms.length ≤ 8
  mem : ∀ y ∈ s.ms, y ∈ pool
  ok : ∀ t ∈ s.ts, TrOk t
def tr_l_section : TrR := fun as n Q => ∃ (nm : Str) (pool : List Str), as = [.dw, .da (.str nm), .da (.list (pool.map .str))] ∧ ((∀ y ∈ pool, Nm y) ∧ pool.Nodup ∧ 2 ≤ pool.length ∧ pool.length ≤ 100 ∧ n + 60 < 2 ^ 40) ∧ ∀ s : Sec, (s.nm = nm ∧ SecG s pool) → Q (.da (secD s)) (n + 60)
abbrev s_l_stretch : Stmt := top 30
abbrev n_l_stretch : List Str := ["_law_draw", "_law_way"]
abbrev p_l_stretch : List Str := ["_law_draw"]
theorem sc_l_stretch : FnScope n_l_stretch p_l_stretch (defScope s_l_stretch) := ⟨rfl, rfl, rfl, by decide +kernel, rfl, by decide +kernel, by decide +kernel⟩
abbrev s_l_section : Stmt := top 31
abbrev n_l_section : List Str := ["_law_draw", "_law_name", "_law_pool", "_law_many", "_law_marks", "_law_ways", "_law_rest", "_law_one", "_law_k"]
abbrev p_l_section : List Str := ["_law_draw", "_law_name", "_law_pool"]
theorem sc_l_section : FnScope n_l_section p_l_section (defScope s_l_section) := ⟨rfl, rfl, rfl, by decide +kernel, rfl, by decide +kernel, by decide +kernel⟩
theorem at_lastM {α β : Type} {f : α → β} (xs : List α) (x : α) : atI ((xs ++ [x]).map f) (-1) = some (f x) := at_map (at_last xs x)
theorem at_last2 {α β : Type} {f : α → β} (xs : List α) (x y : α) : atI ((xs ++ [x] ++ [y]).map f) (-2) = some (f x) := by
  refine at_map ?_
  unfold L2.atI
  have e : ixN (xs ++ [x] ++ [y]).length (-2) = some xs.length := by
    unfold ixN
    rw [List.length_append, List.length_append, if_neg (by decide), if_pos (by show -((xs.length + 1 + 1 : Nat) : Int) ≤ -2; omega)]
    congr 1
    show (-2 + ((xs.length + 1 + 1 : Nat) : Int)).toNat = xs.length
    omega
  rw [e]
  show (xs ++ [x] ++ [y])[xs.length]? = some x
  rw [List.append_assoc, List.getElem?_append_right (Nat.le_refl _), Nat.sub_self]
  rfl
theorem nms_shp {ys : List Str} (h : ∀ y ∈ ys, Nm y) : SeqAt.shaped (.list (ys.map .str)) = true := shp_strs fun y hy c hc => (h y hy).sh.1 c hc
theorem prs_shp {ws : List (Str × Str)} (h : ∀ p ∈ ws, Nm p.1 ∧ Nm p.2) : SeqAt.shaped (.list (ws.map prD)) = true := (Ly.lst (LyA.map ws fun p hp => Ly.tup (.cons (.str (h p hp).1.sh) (.cons (.str (h p hp).2.sh) .nil)))).shp (by decide)
theorem pr_shp {p : Str × Str} (h : Nm p.1 ∧ Nm p.2) : SeqAt.shaped (prD p) = true := (Ly.tup (.cons (.str h.1.sh) (.cons (.str h.2.sh) .nil))).shp (by decide)
section
variable {P : Program} {w : World} {K : PySem.W.Frag} {mg : Str → Option Value} {base : Heap}
theorem kn_l_stretch (D : Df K mg "_law_stretch" s_l_stretch) (B : BG mg) (k_l_next : Kn P w K mg base "_law_next" 2 ["_law_draw", "_law_many"] (spR K trNext)) : Kn P w K mg base "_law_stretch" 3 p_l_stretch (spR K tr_l_stretch) := by
  refine D.knR sc_l_stretch (fun _ _ _ _ _ _ us hl => match us, hl with | [_], _ => rfl) (fun as n Q h => by obtain ⟨rfl, _⟩ := h; rfl) (fun f cdv A outer s H E gd hr => ?_)
  refine ⟨_, PSs.nox (pss_cons (ps_set (i := 1) sc_l_stretch.nd rfl (.inl rfl) (pe_kn k_l_next gd (hr.mono (by decide)) rfl (pa_cons (pv 0) (pa_cons pe_int pa_nil)))) (pss_cons (ps_if (pt_cmpR op_eq (pv 1) pe_int (nomark _)) (pss_one (ps_ret (pe_tup (pa_cons (pe_op op_add pe_int (pe_kn k_l_next gd (hr.mono (by decide)) rfl (pa_cons (pv 0) (pa_cons pe_int pa_nil)))) (pa_cons (pe_kn k_l_next gd (hr.mono (by decide)) rfl (pa_cons (pv 0) (pa_cons pe_int pa_nil))) (pa_cons (pe_kn k_l_next gd (hr.mono (by decide)) rfl (pa_cons (pv 0) (pa_cons pe_int pa_nil))) pa_nil)))))) pss_nil) (pss_cons (ps_if (pt_cmpR op_eq (pv 1) pe_int (nomark _)) (pss_one (ps_ret (pe_tup (pa_cons pe_int (pa_cons pe_int (pa_cons (pe_kn k_l_next gd (hr.mono (by decide)) rfl (pa_cons (pv 0) (pa_cons pe_int pa_nil))) pa_nil)))))) pss_nil) (pss_cons (ps_if (pt_cmpR op_eq (pv 1) pe_int (nomark _)) (pss_one (ps_ret (pe_tup (pa_cons pe_int (pa_cons pe_int (pa_cons (pe_op op_mul pe_int (pe_kn k_l_next gd (hr.mono (by decide)) rfl (pa_cons (pv 0) (pa_cons pe_int pa_nil)))) pa_nil)))))) pss_nil) (pss_one (ps_ret (pe_tup (pa_cons (pe_op op_add pe_int (pe_kn k_l_next gd (hr.mono (by decide)) rfl (pa_cons (pv 0) (pa_cons pe_int pa_nil)))) (pa_cons (pe_kn k_l_next gd (hr.mono (by decide)) rfl (pa_cons (pv 0) (pa_cons pe_int pa_nil))) (pa_cons (pe_kn k_l_next gd (hr.mono (by decide)) rfl (pa_cons (pv 0) (pa_cons pe_int pa_nil))) pa_nil)))))))))), fun p as n Q h => ?_⟩
  try dsimp only [cxOf]
  obtain ⟨rfl, hn, q⟩ := h
  have ho : (some p : Md) ≠ none := fun z => nomatch z
  refine s_seq (s_set (w_nextC ho rfl ⟨by decide, by decide⟩ (by omega) (fun v1 v1a v1b => ?_)))
  refine s_seq (s_ite (ev_test (ev_op (ev_v rfl) ev_int d_eqI)) (fun hc => ?_) (fun hc => s_next ?_))
  · refine s_ret (w_tup (w_cons (w_op (Ev.w ev_int (w_nextC ho rfl ⟨by decide, by decide⟩ (by omega) (fun u1 u1a u1b => ⟨_, d_ii, (w_cons (w_nextC ho rfl ⟨by decide, by decide⟩ (by omega) (fun u2 u2a u2b => (w_cons (w_nextC ho rfl ⟨by decide, by decide⟩ (by omega) (fun u3 u3a u3b => (w_nil ⟨_, rfl, Nat.le_of_ble_eq_true rfl, ?_⟩)))))))⟩))))))
    exact ⟨_, rfl, q (1 + u1, u2, u3) (trOk (by omega) (by omega) (by omega) (by omega) (by omega) (by omega))⟩
  refine s_seq (s_ite (ev_test (ev_op (ev_v rfl) ev_int d_eqI)) (fun hc => ?_) (fun hc => s_next ?_))
  · refine s_up (m := n + 3) (by omega) (s_ret (w_tup (w_cons (Ev.w ev_int (w_cons (Ev.w ev_int (w_cons (w_nextC ho rfl ⟨by decide, by decide⟩ (by omega) (fun u1 u1a u1b => (w_nil ⟨_, rfl, Nat.le_of_ble_eq_true rfl, ?_⟩))))))))))
    exact ⟨_, rfl, q (1, 0, u1) (trOk (by decide) (by decide) (by decide) (by decide) (by omega) (by omega))⟩
  refine s_seq (s_ite (ev_test (ev_op (ev_v rfl) ev_int d_eqI)) (fun hc => ?_) (fun hc => s_next ?_))
  · refine s_up (m := n + 3) (by omega) (s_ret (w_tup (w_cons (Ev.w ev_int (w_cons (Ev.w ev_int (w_cons (w_op (Ev.w ev_int (w_nextC ho rfl ⟨by decide, by decide⟩ (by omega) (fun u1 u1a u1b => ⟨_, d_iic (.inl ⟨by decide, by decide⟩), (w_nil ⟨_, rfl, Nat.le_of_ble_eq_true rfl, ?_⟩)⟩)))))))))))
    exact ⟨_, rfl, q (999, 999, 999 * u1) (trOk (by decide) (by decide) (by decide) (by decide) (by omega) (by omega))⟩
  refine s_ret (w_tup (w_cons (w_op (Ev.w ev_int (w_nextC ho rfl ⟨by decide, by decide⟩ (by omega) (fun u1 u1a u1b => ⟨_, d_ii, (w_cons (w_nextC ho rfl ⟨by decide, by decide⟩ (by omega) (fun u2 u2a u2b => (w_cons (w_nextC ho rfl ⟨by decide, by decide⟩ (by omega) (fun u3 u3a u3b => (w_nil ⟨_, rfl, Nat.le_of_ble_eq_true rfl, ?_⟩)))))))⟩))))))
  exact ⟨_, rfl, q (1 + u1, u2, u3) (trOk (by omega) (by omega) (by omega) (by omega) (by omega) (by omega))⟩
theorem kn_l_section (D : Df K mg "_law_section" s_l_section) (B : BG mg) (k_l_next : Kn P w K mg base "_law_next" 2 ["_law_draw", "_law_many"] (spR K trNext)) (k_l_stretch : Kn P w K mg base "_law_stretch" 3 p_l_stretch (spR K tr_l_stretch)) : Kn P w K mg base "_law_section" 4 p_l_section (spR K tr_l_section) := by
  refine D.knR sc_l_section (fun _ _ _ _ _ _ us hl => match us, hl with | [_, _, _], _ => rfl) (fun as n Q h => by obtain ⟨nm, pool, rfl, _⟩ := h; rfl) (fun f cdv A outer s H E gd hr => ?_)
  have hu65 : (A.deeper (envOfC "_law_section" (defScope s_l_section) s.heap.objs.size f cdv)).units + 65 < cLine := by
    have := hr.un
    omega
  refine ⟨_, PSs.nox (pss_cons (ps_set (i := 3) sc_l_section.nd rfl (.inl rfl) (pe_ix ix_list (pe_lst (pa_cons (pe_op op_add pe_int (pe_kn k_l_next gd (hr.mono (by decide)) rfl (pa_cons (pv 0) (pa_cons pe_int pa_nil)))) (pa_cons (pe_op op_add pe_int (pe_kn k_l_next gd (hr.mono (by decide)) rfl (pa_cons (pv 0) (pa_cons pe_int pa_nil)))) (pa_cons pe_int pa_nil)))) (pe_kn k_l_next gd (hr.mono (by decide)) rfl (pa_cons (pv 0) (pa_cons pe_int pa_nil))) (fun _ _ => rfl))) (pss_cons (ps_asg (pe_tup (pa_cons (pe_lst (pa_cons (pe_ix ix_list (pv 2) (pe_kn k_l_next gd (hr.mono (by decide)) rfl (pa_cons (pv 0) (pa_cons (pe_callB call_len_seq rfl B.len PySem.boot_len (pa_cons (pv 2) pa_nil)) pa_nil))) (fun _ _ => rfl)) pa_nil)) (pa_cons (pe_lst pa_nil) (pa_cons (pv 2) pa_nil)))) (pg_tup rfl (pgs_cons (pg_name (i := 4) sc_l_section.nd rfl (.inr rfl)) (pgs_cons (pg_name (i := 5) sc_l_section.nd rfl (.inr rfl)) (pgs_cons (pg_name (i := 6) sc_l_section.nd rfl (.inl rfl)) pgs_nil))))) (pss_cons (ps_while PassesOwn.never (PW.pt (pw_and (pt_cmpR op_lt (pe_callB call_len_seq rfl B.len PySem.boot_len (pa_cons (pv 4) pa_nil)) (pv 3) (nomark _)) (pw_and1 (pt_cmpR (op_neD hr.units) (pv 6) (pe_lst pa_nil) (nomark _))))) (pss_cons (ps_setLc (i := 6) (own := [("_law_one", 7)]) (g := gName 7) (tt := tAnd (tTest (tOp rNe (tVar 7) (tOp (rIxL K) (tVar 4) (tUn (rU fun i => .int (-i)) (tC (.int 1)))))) (tTest (tOp (rNotInD K) (tTup (tCons (tOp (rIxL K) (tVar 4) (tUn (rU fun i => .int (-i)) (tC (.int 1)))) (tCons (tVar 7) (tNil)))) (tVar 5)))) (te := tVar 7) rfl sc_l_section.nd rfl rfl (sw_true rfl rfl rfl (by decide +kernel)) (pi_list (pv 2)) (blkOk_by (N := n_l_section) (sc := defScope s_l_section) (by decide +kernel)) (fun _ _ _ _ _ => (pg_name (i := 7) sc_l_section.nd rfl (.inl rfl))) (fun _ _ _ _ _ => (pts_one (PW.pt (pw_and (pt_cmpR op_ne (pv 7) (pe_ix ix_list (pv 4) (pe_un un_neg pe_int) (fun _ _ => rfl)) (nomark _)) (pw_and1 (pt_cmpR (op_notInD hu65) (pe_tup (pa_cons (pe_ix ix_list (pv 4) (pe_un un_neg pe_int) (fun _ _ => rfl)) (pa_cons (pv 7) pa_nil))) (pv 5) rfl)))))) (fun _ _ _ _ _ => (pv 7))) (pss_one (ps_if (pt_cmpR (op_neD hr.units) (pv 6) (pe_lst pa_nil) (nomark _)) (pss_cons (ps_expr (pe_bm PySem.F.plainAttrs_list PySem.F.slot_list_append PySem.F.type_list_append mt_append (pv 4) (pa_cons (pe_ix ix_list (pv 6) (pe_kn k_l_next gd (hr.mono (by decide)) rfl (pa_cons (pv 0) (pa_cons (pe_callB call_len_seq rfl B.len PySem.boot_len (pa_cons (pv 6) pa_nil)) pa_nil))) (fun _ _ => rfl)) pa_nil))) (pss_one (ps_set (i := 5) sc_l_section.nd rfl (.inr rfl) (pe_op op_catS (pv 5) (pe_lst (pa_cons (pe_tup (pa_cons (pe_ix ix_list (pv 4) (pe_un un_neg pe_int) (fun _ _ => rfl)) (pa_cons (pe_ix ix_list (pv 4) (pe_un un_neg pe_int) (fun _ _ => rfl)) pa_nil))) (pa_cons (pe_tup (pa_cons (pe_ix ix_list (pv 4) (pe_un un_neg pe_int) (fun _ _ => rfl)) (pa_cons (pe_ix ix_list (pv 4) (pe_un un_neg pe_int) (fun _ _ => rfl)) pa_nil))) pa_nil))))))) pss_nil)))) (pss_one (ps_ret (pe_tup (pa_cons (pv 1) (pa_cons (pe_callTy call_tuple_of rfl B.tuple bt_tuple (pa_cons (pv 4) pa_nil)) (pa_cons (pe_callTy call_tuple_of rfl B.tuple bt_tuple (pa_cons (pe_lc (own := [("_law_k", 8)]) (g := gName 8) (tt := tYes) (te := tCall (spR K tr_l_stretch) [] E0 (tCons (tVar 0) (tNil))) rfl sc_l_section.nd (pi_range1 rfl B.range (pa_cons (pe_op op_sub (pe_callB call_len_seq rfl B.len PySem.boot_len (pa_cons (pv 4) pa_nil)) pe_int) pa_nil)) (blkOk_by (N := n_l_section) (sc := defScope s_l_section) (by decide +kernel)) (fun _ _ _ _ _ => (pg_name (i := 8) sc_l_section.nd rfl (.inl rfl))) (fun _ _ _ _ _ => pts_nil) (fun _ _ _ _ _ => (pe_kn k_l_stretch gd (hr.mono (by decide)) rfl (pa_cons (pv 0) pa_nil)))) pa_nil)) pa_nil))))))))), fun p as n Q h => ?_⟩
  try dsimp only [cxOf]
  obtain ⟨nm, pool, rfl, ⟨pn, pnd, p2, p100, hn⟩, q⟩ := h
  have ho : (some p : Md) ≠ none := fun z => nomatch z
  refine s_seq (s_set (w_op (w_lst (w_cons (w_op (Ev.w ev_int (w_nextC ho rfl ⟨by decide, by decide⟩ (by omega) (fun v1 v1a v1b => ⟨_, d_ii, (w_cons (w_op (Ev.w ev_int (w_nextC ho rfl ⟨by decide, by decide⟩ (by omega) (fun v2 v2a v2b => ⟨_, d_ii, (w_cons (Ev.w ev_int (w_nil ⟨_, rfl, Nat.le_of_ble_eq_true rfl, (w_nextC ho rfl ⟨by decide, by decide⟩ (by omega) (fun v3 v3a v3b => ⟨_, d_ixL rfl (at3i v3a v3b), ?_⟩))⟩)))⟩)))))⟩))))))))
  have hz : 2 ≤ pk3 v3 (2 + v1) (2 + v2) 8 ∧ pk3 v3 (2 + v1) (2 + v2) 8 ≤ 8 := pk3_in (P := fun z => 2 ≤ z ∧ z ≤ 8) ⟨by omega, by omega⟩ ⟨by omega, by omega⟩ ⟨by omega, by omega⟩
  generalize pk3 v3 (2 + v1) (2 + v2) 8 = many at hz
  refine s_seq (s_unp [4, 5, 6] rfl (w_cons (w_lst (w_cons (w_op (Ev.w (ev_v rfl) (w_next ho rfl (Ev.w (ev_cb (ev_cons (ev_v rfl) ev_nil) (d_len rfl)) ⟨_, rfl, ?_, ?_, by omega, fun u ua ub => ?_⟩)))))))) 
  · rw [List.length_map]
    omega
  · rw [List.length_map]
    omega
  rw [List.length_map] at ub
  obtain ⟨m0, m0m, m0e⟩ := at_any (xs := pool) ua ub
  refine ⟨_, d_ixL rfl (at_map m0e), w_nil ⟨_, rfl, Nat.le_of_ble_eq_true rfl, w_cons (Ev.w (ev_lst ev_nil rfl (Nat.le_of_ble_eq_true rfl)) (w_cons (Ev.w (ev_v rfl) (w_nil ⟨rfl, Nat.le_of_ble_eq_true rfl, ?_⟩))))⟩⟩
  refine s_seqJ (fun Γ' n' => ∃ (ms : List Str) (x5 x6 : Sl), Γ' = [.dw, .da (.str nm), .da (.list (pool.map .str)), .da (.int many), .own (ms.map .str), x5, x6, .no, .no] ∧ 2 ≤ ms.length ∧ ms.length ≤ 8 ∧ (∀ y ∈ ms, y ∈ pool) ∧ n' ≤ n + 4 + ms.length) ?_ (fun Γ' n' hJ => ?_)
  · refine s_while (fun mm Γ' n' => ∃ (ms0 : List Str) (l : Str) (ws : List (Str × Str)) (rs : List Str) (x6 : Sl), Γ' = [.dw, .da (.str nm), .da (.list (pool.map .str)), .da (.int many), .own ((ms0 ++ [l]).map .str), .own (ws.map prD), x6, .no, .no] ∧ (x6 = .da (.list (rs.map .str)) ∨ x6 = .own (rs.map .str)) ∧ (∀ y ∈ rs, Nm y) ∧ mm = 2 * (8 - (ms0 ++ [l]).length) + (if rs = [] then 0 else 1) ∧ ((ms0 ++ [l]).length : Int) ≤ many ∧ (∀ y ∈ ms0 ++ [l], y ∈ pool) ∧ (∀ q ∈ ws, q.1 ∈ pool ∧ q.2 ∈ pool) ∧ ws.length ≤ 2 * ms0.length ∧ ((ms0 = [] ∧ ws = [] ∧ rs ≠ []) ∨ ms0 ≠ []) ∧ n' ≤ n + 4 + (ms0 ++ [l]).length) ⟨_, [], m0, [], pool, _, rfl, .inl rfl, pn, rfl, ?_, fun y hy => ?_, (fun _ z => nomatch z), Nat.le_refl _, .inl ⟨rfl, rfl, ?_⟩, ?_⟩ (fun mm Γ' n' hI => ?_)
    · show ((1 : Nat) : Int) ≤ many
      omega
    · have e : y = m0 := by simpa using hy
      rw [e]
      exact m0m
    · intro z
      rw [z] at p2
      simp at p2
    · show n + 1 + 1 + 1 + 1 ≤ n + 4 + 1
      omega
    obtain ⟨ms0, l, ws, rs, x6, rfl, hx6, rn, emm, hml, mp, wp, wl, hgo, hn'⟩ := hI
    have lp : l ∈ pool := mp l (List.mem_append_right _ (List.mem_singleton.mpr rfl))
    have ln : Nm l := pn l lp
    have t2 : EvT K (some p) (tTest (tOp (rNeD K) (tVar 6) (tLst tNil))) [.dw, .da (.str nm), .da (.list (pool.map .str)), .da (.int many), .own ((ms0 ++ [l]).map .str), .own (ws.map prD), x6, .no, .no] (!decide (rs = [])) := by
      have e : PyData.eqv (.list (rs.map .str)) (.list []) = decide (rs = []) := by
        rw [eqv_nilL]
        cases rs <;> rfl
      rw [← e]
      rcases hx6 with rfl | rfl
      · exact ev_test (ev_op (ev_v rfl) (ev_lst ev_nil rfl (Nat.le_of_ble_eq_true rfl)) (d_neD rfl rfl (nms_shp rn) rfl))
      · exact ev_test (ev_op (ev_v rfl) (ev_lst ev_nil rfl (Nat.le_of_ble_eq_true rfl)) (d_neD rfl rfl (nms_shp rn) rfl))
    refine (ev_and (ev_test (ev_op (ev_cb (ev_cons (ev_v rfl) ev_nil) (d_len rfl)) (ev_v rfl) d_ib)) (fun _ => t2)) _ _ ?_
    rw [List.length_map]
    by_cases hgo2 : ((ms0 ++ [l]).length : Int) < many ∧ rs ≠ []
    · rw [decide_eq_true hgo2.1, decide_eq_false hgo2.2]
      refine iteT ?_
      have wn : ∀ q ∈ ws, Nm q.1 ∧ Nm q.2 := fun q hq => ⟨pn _ (wp q hq).1, pn _ (wp q hq).2⟩
      refine s_seq (s_set (Ev.w (ev_lc (i_lst (ev_v rfl) rfl) (by omega) (fun x hx N hN => (g_name (by decide) hN)) (fun x hx => (ev_and (ev_test (ev_op (ev_v rfl) (ev_op (ev_v rfl) (ev_un ev_int d_neg) (d_ixL rfl (at_lastM _ _))) d_neS)) (fun hc => (ev_test (ev_op (ev_tup (ev_cons (ev_op (ev_v rfl) (ev_un ev_int d_neg) (d_ixL rfl (at_lastM _ _))) (ev_cons (ev_v rfl) ev_nil)) rfl (Nat.le_of_ble_eq_true rfl)) (ev_v rfl) (d_ninD rfl rfl (pr_shp (p := (l, x)) ⟨ln, pn x hx⟩) (prs_shp wn))))))) (fun x hx hp => (ev_v rfl)) (fun x hx hp => rfl)) ?_))
      have et : (fun x => (!decide (x = l) && !(ws.map prD).any fun z => PyData.eqv z (prD (l, x)))) = fun x => (!decide (x = l) && !decide ((l, x) ∈ ws)) := by
        funext x
        rw [any_pr]
      rw [show (pool.filter fun x => (!decide (x = l) && !(ws.map prD).any fun z => PyData.eqv z (.tuple [.str l, .str x]))) = pool.filter fun x => (!decide (x = l) && !decide ((l, x) ∈ ws)) from congrArg (fun f => pool.filter f) et]
      have rl2 : (pool.filter (fun x => (!decide (x = l) && !decide ((l, x) ∈ ws)))).length ≤ 100 := Nat.le_trans (List.length_filter_le _ _) p100
      have rp : ∀ y ∈ pool.filter (fun x => (!decide (x = l) && !decide ((l, x) ∈ ws))), y ∈ pool := fun y hy => (List.mem_filter.mp hy).1
      have rne : ms0 = [] → ws = [] → pool.filter (fun x => (!decide (x = l) && !decide ((l, x) ∈ ws))) ≠ [] := fun e1 e2 z => by
        rw [List.filter_eq_nil_iff] at z
        have all : ∀ y ∈ pool, y = l := fun y hy => Classical.byContradiction fun hne => z y hy (by rw [e2]; simp [hne])
        match pool, p2, pnd, all with
        | a :: b :: r, _, nd, al =>
          have := (List.nodup_cons.mp nd).1
          rw [al a List.mem_cons_self, al b (List.mem_cons_of_mem _ List.mem_cons_self)] at this
          exact this List.mem_cons_self
      generalize pool.filter (fun x => (!decide (x = l) && !decide ((l, x) ∈ ws))) = rs2 at rp rne rl2
      have rn2 : ∀ y ∈ rs2, Nm y := fun y hy => pn y (rp y hy)
      have e2 : PyData.eqv (.list (rs2.map .str)) (.list []) = decide (rs2 = []) := by
        rw [eqv_nilL]
        cases rs2 <;> rfl
      refine s_ite (EvT.eq (ev_test (ev_op (ev_v rfl) (ev_lst ev_nil rfl (Nat.le_of_ble_eq_true rfl)) (d_neD rfl rfl (nms_shp rn2) (rfl)))) (congrArg (!·) e2)) (fun hc => ?_) (fun hc => s_next ?_)
      · have hne : rs2 ≠ [] := fun z => by
          rw [decide_eq_true z] at hc
          cases hc
        have rl : 0 < rs2.length := List.length_pos_iff.mpr hne
        refine s_seq (s_append (i := 4) rfl (w_op (Ev.w (ev_v rfl) (w_next ho rfl (Ev.w (ev_cb (ev_cons (ev_v rfl) ev_nil) (d_len rfl)) ⟨_, rfl, ?_, ?_, by omega, fun u ua ub => ?_⟩)))))
        · rw [List.length_map]
          omega
        · rw [List.length_map]
          omega
        rw [List.length_map] at ub
        obtain ⟨y, ym, ye⟩ := at_any (xs := rs2) ua ub
        refine ⟨_, d_ixL rfl (at_map ye), _, rfl, ?_, ?_⟩
        · rw [List.length_map]
          omega
        rw [show (ms0 ++ [l]).map PyData.str ++ [.str y] = (ms0 ++ [l] ++ [y]).map .str by rw [List.map_append (l₁ := ms0 ++ [l])]; rfl]
        refine s_set (Ev.w (ev_op (ev_v rfl) (ev_lst (ev_cons (ev_tup (ev_cons (ev_op (ev_v rfl) (ev_un ev_int d_neg) (d_ixL rfl (at_last2 _ _ _))) (ev_cons (ev_op (ev_v rfl) (ev_un ev_int d_neg) (d_ixL rfl (at_lastM _ _))) ev_nil)) rfl (Nat.le_of_ble_eq_true rfl)) (ev_cons (ev_tup (ev_cons (ev_op (ev_v rfl) (ev_un ev_int d_neg) (d_ixL rfl (at_lastM _ _))) (ev_cons (ev_op (ev_v rfl) (ev_un ev_int d_neg) (d_ixL rfl (at_last2 _ _ _))) ev_nil)) rfl (Nat.le_of_ble_eq_true rfl)) ev_nil)) rfl (Nat.le_of_ble_eq_true rfl)) (d_catL rfl rfl (by rw [List.length_map]; show ws.length + 2 ≤ 30000; have : ms0.length ≤ 8 := by { rw [List.length_append] at hml; omega }; omega))) ?_)
        have el : (ms0 ++ [l] ++ [y]).length = (ms0 ++ [l]).length + 1 := by rw [List.length_append]; rfl
        have el0 : (ms0 ++ [l]).length = ms0.length + 1 := by rw [List.length_append]; rfl
        refine ⟨2 * (8 - (ms0 ++ [l] ++ [y]).length) + (if rs2 = [] then 0 else 1), ?_, ms0 ++ [l], y, ws ++ [(l, y), (y, l)], rs2, _, by rw [List.map_append (l₁ := ws)]; rfl, .inr rfl, rn2, rfl, ?_, fun x hx => ?_, fun x hx => ?_, ?_, .inr ?_, ?_⟩
        · rw [emm, if_neg hgo2.2, if_neg hne, el]
          omega
        · rw [el]
          omega
        · rcases List.mem_append.mp hx with z | z
          · exact mp x z
          · rw [List.mem_singleton.mp z]
            exact rp y ym
        · rcases List.mem_append.mp hx with z | z
          · exact wp x z
          · simp only [List.mem_cons, List.not_mem_nil, or_false] at z
            rcases z with z | z
            · rw [z]
              exact ⟨lp, rp y ym⟩
            · rw [z]
              exact ⟨rp y ym, lp⟩
        · rw [List.length_append, el0]
          show ws.length + 2 ≤ _
          omega
        · intro z
          rw [z] at el0
          simp at el0
        · rw [el]
          omega
      · have hne : rs2 = [] := Classical.byContradiction fun z => by
          rw [decide_eq_false z] at hc
          cases hc
        refine ⟨2 * (8 - (ms0 ++ [l]).length) + (if rs2 = [] then 0 else 1), ?_, ms0, l, ws, rs2, _, rfl, .inr rfl, rn2, rfl, hml, mp, wp, wl, .inr fun z => ?_, hn'⟩
        · rw [emm, if_neg hgo2.2, if_pos hne]
          omega
        · rcases hgo with ⟨e1, e2, _⟩ | h
          · exact rne e1 e2 hne
          · exact h z
    · have hf : (decide (((ms0 ++ [l]).length : Int) < many) && !decide (rs = [])) = false := by
        by_cases h1 : ((ms0 ++ [l]).length : Int) < many
        · have h2 : rs = [] := Classical.byContradiction fun z => hgo2 ⟨h1, z⟩
          rw [decide_eq_true h2]
          simp
        · rw [decide_eq_false h1]
          rfl
      rw [hf]
      refine iteF ⟨ms0 ++ [l], _, _, rfl, ?_, by omega, mp, hn'⟩
      rcases hgo with ⟨e1, e2, e3⟩ | h
      · exfalso
        refine hgo2 ⟨?_, e3⟩
        rw [e1]
        show ((1 : Nat) : Int) < many
        omega
      · cases ms0 with
        | nil => exact absurd rfl h
        | cons a r =>
          rw [List.length_append, List.length_cons]
          show 2 ≤ r.length + 1 + 1
          omega
  · obtain ⟨ms, x5, x6, rfl, h2, h8, mp, hn'⟩ := hJ
    refine s_up (m := n + 60 - 4 * (ms.length - 1)) (by omega) (s_ret (w_tup (w_cons (Ev.w (ev_v rfl) (w_cons (Ev.w (ev_cb (ev_cons (ev_v rfl) ev_nil) (d_tuple rfl)) (w_cons (w_cb (w_cons (w_lc ((i_rng1 (ev_cons (ev_op (ev_cb (ev_cons (ev_v rfl) ev_nil) (d_len rfl)) ev_int d_ii) ev_nil) ?_) _ _ ⟨?_, fun i acc m => ∃ ts : List Tri, acc = ts.map triD ∧ ts.length = i ∧ (∀ t ∈ ts, TrOk t) ∧ m = n + 60 - 4 * (ms.length - 1) + 4 * i, ⟨[], rfl, rfl, (fun _ z => nomatch z), rfl⟩, fun i acc m hI => ?_, fun i d acc m hd hI => ?_, fun acc m hI => ?_⟩)))))))))))
    · rw [List.length_map]
      exact ⟨by omega, by omega⟩
    · rw [rngD_len, List.length_map]
      omega
    · obtain ⟨ts, rfl, tl', _⟩ := hI
      rw [List.length_map]
      omega
    · obtain ⟨ts, rfl, tl', tk, rfl⟩ := hI
      have hi : i < ms.length - 1 := by
        have := (List.getElem?_eq_some_iff.mp hd).1
        rw [rngD_len, List.length_map] at this
        omega
      refine g_name (by decide) (ev_yes _ _ (iteT (w_callR ho (w_cons (Ev.w (ev_v rfl) (w_nil ⟨rfl, (by omega), fun t ht => ?_⟩))))))
      refine ⟨_, rfl, ts ++ [t], by rw [List.map_append]; rfl, by rw [List.length_append, tl']; rfl, fun x hx => ?_, by omega⟩
      rcases List.mem_append.mp hx with z | z
      · exact tk x z
      · rw [List.mem_singleton.mp z]
        exact ht
    · obtain ⟨ts, rfl, tl', tk, rfl⟩ := hI
      rw [rngD_len, List.length_map] at tl'
      have tl2 : ts.length = ms.length - 1 := by omega
      refine w_nil ⟨_, d_tuple rfl, w_nil ⟨_, rfl, Nat.le_of_ble_eq_true rfl, _, rfl, ?_⟩⟩
      rw [rngD_len, List.length_map]
      have e : n + 60 - 4 * (ms.length - 1) + 4 * (((ms.length : Int) - 1).toNat) = n + 60 := by omega
      rw [e]
      exact q ⟨nm, ms, ts⟩ ⟨rfl, by show ms.length = ts.length + 1; omega, h2, h8, mp, tk⟩
end
end Pb

namespace Pb
open PySem PySem.Spec PyProof.Rows L2 TL
/-! ### data without lists -/
mutual
inductive NoL : PyData → Prop
  | non : NoL .none
  | bool (b : Bool) : NoL (.bool b)
  | int (i : Int) : NoL (.int i)
  | str (x : Str) : NoL (.str x)
  | tup {ds : List PyData} (h : NoLA ds) : NoL (.tuple ds)
inductive NoLA : List PyData → Prop
  | nil : NoLA []
  | cons {d : PyData} {ds : List PyData} (h : NoL d) (t : NoLA ds) : NoLA (d :: ds)
end
theorem NoLA.map {α : Type} {f : α → PyData} : ∀ (xs : List α), (∀ x ∈ xs, NoL (f x)) → NoLA (xs.map f)
  | [], _ => .nil
  | x :: xs, h => .cons (h x List.mem_cons_self) (NoLA.map xs fun y hy => h y (List.mem_cons_of_mem _ hy))
theorem NoL.strs (xs : List Str) : NoL (.tuple (xs.map .str)) := .tup (.map xs fun x _ => .str x)
section
variable {K : PySem.W.Frag} {F F' : Addr → Prop} {H : Hp}
mutual
theorem Dk.noL : ∀ {v : V} {d : PyData}, Dk K F H v d → NoL d → Dk K F' H v d
  | _, _, .non, _ => .non
  | _, _, .bl b, _ => .bl b
  | _, _, .int i, _ => .int i
  | _, _, .str x, _ => .str x
  | _, _, .tup h t, .tup n => .tup h (DkAll.noL t n)
theorem DkAll.noL : ∀ {v : List V} {d : List PyData}, DkAll K F H v d → NoLA d → DkAll K F' H v d
  | _, _, .nil, _ => .nil
  | _, _, .cons a b, .cons n m => .cons (Dk.noL a n) (DkAll.noL b m)
end
/-- arguments without lists -/
def AvNL (as : List Av) : Prop := ∀ a ∈ as, a = .dw ∨ ∃ d, a = .da d ∧ NoL d
theorem AvAll.noL {od : Md} {vs : List V} {as : List Av} (h : AvAll K od F H vs as) (n : AvNL as) : AvAll K od F' H vs as := by
  induction h with
  | nil => exact .nil
  | cons h t ih =>
    rename_i v a vs as
    refine .cons ?_ (ih fun x hx => n x (List.mem_cons_of_mem _ hx))
    rcases n a List.mem_cons_self with rfl | ⟨d, rfl, nd⟩
    · exact h
    · exact Dk.noL h nd
end
end Pb

namespace Pb
open PySem PySem.Spec PyProof.Rows L2 TL
/-! ### books drawn -/
structure SecK (s : Sec) : Prop where
  nm : Nm s.nm
  l1 : s.ms.length = s.ts.length + 1
  l2 : 2 ≤ s.ms.length
  l8 : s.ms.length ≤ 8
  mn : ∀ y ∈ s.ms, Nm y
  ok : ∀ t ∈ s.ts, TrOk t
structure R3Ok (r : D3) : Prop where
  h : Sm 600 1 r.1
  b : Sm 600 2 r.2.1
  g : Sm 600 2 r.2.2
  n1 : NoL r.1
  n2 : NoL r.2.1
  n3 : NoL r.2.2
structure BookG (ss : List Sec) (r : D3) : Prop where
  l1 : 1 ≤ ss.length
  l8 : ss.length ≤ 8
  ss : ∀ s ∈ ss, SecK s
  r : R3Ok r
def tr_l_book : TrR := fun as n Q => ∃ most : Int, as = [.dw, .da (.int most)] ∧ (1 ≤ most ∧ most ≤ 8 ∧ n + 5000 < 2 ^ 40) ∧ ∀ (ss : List Sec) (r : D3), (BookG ss r ∧ (ss.map Sec.nm).Nodup) → Q (.da (bkD ss r)) (n + 5000)
abbrev s_l_book : Stmt := top 32
abbrev n_l_book : List Str := ["_law_draw", "_law_most", "_law_names", "_law_pool", "_law_sections", "_law_used", "_law_halts", "_law_besides", "_law_badges", "_law_mark", "_law_name", "_law_one"]
abbrev p_l_book : List Str := ["_law_draw", "_law_most"]
theorem sc_l_book : FnScope n_l_book p_l_book (defScope s_l_book) := ⟨rfl, rfl, rfl, by decide +kernel, rfl, by decide +kernel, by decide +kernel⟩
theorem sm_strs {ys : List Str} {k : Nat} (h : ∀ y ∈ ys, Nm y) (hl : ys.length ≤ k) : Sm (9 * k) 1 (.tuple (ys.map .str)) := .tup (sm_map ys (fun y hy => sm_sh (h y hy).sh) hl)
theorem sm_nilT : Sm 600 2 (.tuple []) := (Sm.tup .nil).le (by decide) (by decide)
section
variable {P : Program} {w : World} {K : PySem.W.Frag} {mg : Str → Option Value} {base : Heap}
theorem kn_l_book (D : Df K mg "_law_book" s_l_book) (B : BW mg) (k_l_next : Kn P w K mg base "_law_next" 2 ["_law_draw", "_law_many"] (spR K trNext)) (k_l_words : Kn P w K mg base "_law_words" 3 p_l_words (spR K tr_l_words)) (k_l_section : Kn P w K mg base "_law_section" 4 p_l_section (spR K tr_l_section)) : Kn P w K mg base "_law_book" 5 p_l_book (spR K tr_l_book) := by
  refine D.knR sc_l_book (fun _ _ _ _ _ _ us hl => match us, hl with | [_, _], _ => rfl) (fun as n Q h => by obtain ⟨m, rfl, _⟩ := h; rfl) (fun f cdv A outer s H E gd hr => ?_)
  refine ⟨_, PSs.nox (pss_cons (ps_asg (pe_tup (pa_cons (pe_kn k_l_words gd (hr.mono (by decide)) rfl (pa_cons (pv 0) (pa_cons (pe_op op_add pe_int (pe_kn k_l_next gd (hr.mono (by decide)) rfl (pa_cons (pv 0) (pa_cons (pv 1) pa_nil)))) pa_nil))) (pa_cons (pe_kn k_l_words gd (hr.mono (by decide)) rfl (pa_cons (pv 0) (pa_cons (pe_op op_add pe_int (pe_kn k_l_next gd (hr.mono (by decide)) rfl (pa_cons (pv 0) (pa_cons pe_int pa_nil)))) pa_nil))) pa_nil))) (pg_tup rfl (pgs_cons (pg_name (i := 2) sc_l_book.nd rfl (.inl rfl)) (pgs_cons (pg_name (i := 3) sc_l_book.nd rfl (.inr rfl)) pgs_nil)))) (pss_cons (ps_set (i := 4) sc_l_book.nd rfl (.inr rfl) (pe_callTy call_tuple_of rfl B.tuple bt_tuple (pa_cons (pe_lc (own := [("_law_name", 10)]) (g := gName 10) (tt := tYes) (te := tCall (spR K tr_l_section) [] E0 (tCons (tVar 0) (tCons (tVar 10) (tCons (tVar 3) (tNil))))) rfl sc_l_book.nd (pi_list (pv 2)) (blkOk_by (N := n_l_book) (sc := defScope s_l_book) (by decide +kernel)) (fun _ _ _ _ _ => (pg_name (i := 10) sc_l_book.nd rfl (.inl rfl))) (fun _ _ _ _ _ => pts_nil) (fun _ _ _ _ _ => (pe_kn k_l_section gd (hr.mono (by decide)) rfl (pa_cons (pv 0) (pa_cons (pv 10) (pa_cons (pv 3) pa_nil)))))) pa_nil))) (pss_cons (ps_setLc (i := 5) (own := [("_law_mark", 9)]) (g := gName 9) (tt := tB (tCB (rAny K) (tCons (tLc (iTup K (tVar 4)) (gName 11) (tYes) (tOp (rIn K false) (tVar 9) (tOp (rIxT K) (tVar 11) (tC (.int 1)))) [11]) (tNil)))) (te := tVar 9) rfl sc_l_book.nd rfl rfl (sw_true rfl rfl rfl (by decide +kernel)) (pi_list (pe_callB cr_sortedS rfl B.sorted bt_sorted (pa_cons (pv 3) pa_nil))) (blkOk_by (N := n_l_book) (sc := defScope s_l_book) (by decide +kernel)) (fun _ _ _ _ _ => (pg_name (i := 9) sc_l_book.nd rfl (.inr rfl))) (fun _ _ _ _ _ => (pts_one (pt_val (pe_callB (cr_any rfl) rfl B.any bt_any (pa_cons (pe_lc (own := [("_law_one", 11)]) (g := gName 11) (tt := tYes) (te := tOp (rIn K false) (tVar 9) (tOp (rIxT K) (tVar 11) (tC (.int 1)))) rfl sc_l_book.nd (pi_tup (pv 4)) (blkOk_by (N := n_l_book) (sc := { kind := .function, names := [(".0", .local), ("_law_mark", .cell), ("any", .globalImplicit), ("_law_sections", .cell)], isGenerator := false, isCoroutine := false }) (by decide +kernel)) (fun _ _ _ _ _ => (pg_name (i := 11) sc_l_book.nd rfl (.inl rfl))) (fun _ _ _ _ _ => pts_nil) (fun _ _ _ _ _ => (pe_cmpR op_in_seq (pv 9) (pe_ix ix_tup (pv 11) pe_int (fun _ _ => rfl)) rfl))) pa_nil))))) (fun _ _ _ _ _ => (pv 9))) (pss_cons (ps_set (i := 6) sc_l_book.nd rfl (.inl rfl) (pe_callTy call_tuple_of rfl B.tuple bt_tuple (pa_cons (pe_lc (own := [("_law_mark", 9)]) (g := gName 9) (tt := tTest (tOp rEq (tCall (spR K trNext) [] E0 (tCons (tVar 0) (tCons (tC (.int 2)) (tNil)))) (tC (.int 0)))) (te := tVar 9) rfl sc_l_book.nd (pi_list (pv 5)) (blkOk_by (N := n_l_book) (sc := defScope s_l_book) (by decide +kernel)) (fun _ _ _ _ _ => (pg_name (i := 9) sc_l_book.nd rfl (.inl rfl))) (fun _ _ _ _ _ => (pts_one (pt_cmpR op_eq (pe_kn k_l_next gd (hr.mono (by decide)) rfl (pa_cons (pv 0) (pa_cons pe_int pa_nil))) pe_int (nomark _)))) (fun _ _ _ _ _ => (pv 9))) pa_nil))) (pss_cons (ps_set (i := 7) sc_l_book.nd rfl (.inl rfl) (pe_ifExp (PW.pt (pw_and (pt_cmpR op_gt (pe_callB call_len_seq rfl B.len PySem.boot_len (pa_cons (pv 2) pa_nil)) pe_int (nomark _)) (pw_and1 (pt_cmpR op_eq (pe_kn k_l_next gd (hr.mono (by decide)) rfl (pa_cons (pv 0) (pa_cons pe_int pa_nil))) pe_int (nomark _))))) (pe_tup (pa_cons (pe_callTy call_tuple_of rfl B.tuple bt_tuple (pa_cons (pe_slice sl_list (pv 2) po_none (po_some pe_int)) pa_nil)) pa_nil)) (pe_tup pa_nil))) (pss_cons (ps_set (i := 8) sc_l_book.nd rfl (.inl rfl) (pe_ifExp (pt_cmpR op_eq (pe_kn k_l_next gd (hr.mono (by decide)) rfl (pa_cons (pv 0) (pa_cons pe_int pa_nil))) pe_int (nomark _)) (pe_tup (pa_cons (pe_tup (pa_cons pe_str (pa_cons pe_str (pa_cons (pe_op op_add pe_int (pe_kn k_l_next gd (hr.mono (by decide)) rfl (pa_cons (pv 0) (pa_cons pe_int pa_nil)))) pa_nil)))) pa_nil)) (pe_tup pa_nil))) (pss_one (ps_ret (pe_tup (pa_cons (pv 4) (pa_cons (pv 6) (pa_cons (pv 7) (pa_cons (pv 8) pa_nil))))))))))))), fun p as n Q h => ?_⟩
  try dsimp only [cxOf]
  obtain ⟨most, rfl, ⟨hm1, hm8, hn⟩, q⟩ := h
  have ho : (some p : Md) ≠ none := fun z => nomatch z
  refine s_seq (s_unp [2, 3] rfl (w_cons (w_callR ho (w_cons (Ev.w (ev_v rfl) (w_cons (w_op (Ev.w ev_int (w_next ho rfl (Ev.w (ev_v rfl) ⟨_, rfl, (by omega), (by omega), by omega, fun v1 v1a v1b => ⟨_, d_ii, (w_nil ⟨_, rfl, (⟨by omega, by omega, by omega⟩), fun ws1 hws1 => (w_cons (w_callR ho (w_cons (Ev.w (ev_v rfl) (w_cons (w_op (Ev.w ev_int (w_nextC ho rfl ⟨by decide, by decide⟩ (by omega) (fun v2 v2a v2b => ⟨_, d_ii, (w_nil ⟨_, rfl, (⟨by omega, by omega, by omega⟩), fun ws2 hws2 => (w_nil ?_)⟩)⟩)))))))))⟩)⟩⟩))))))))))
  refine ⟨rfl, Nat.le_of_ble_eq_true rfl, s_keep (i := 3) rfl ?_⟩
  obtain ⟨w1l, w1n, w1d⟩ := hws1
  obtain ⟨w2l, w2n, w2d⟩ := hws2
  -- the sections
  refine s_seq (s_set (w_cb (w_cons (w_lc ((i_lst (ev_v rfl) rfl) _ _ ⟨?_, fun i acc m => ∃ ss : List Sec, acc = ss.map secD ∧ ss.length = i ∧ (∀ s ∈ ss, SecK s) ∧ ss.map Sec.nm = ws1.take i ∧ m = n + 1 + 1200 + 1 + 1200 + 60 * i, ⟨[], rfl, rfl, (fun _ z => nomatch z), rfl, rfl⟩, fun i acc m hI => ?_, fun i d acc m hd hI => ?_, fun acc m hI => ?_⟩)))))
  · rw [List.length_map]
    omega
  · obtain ⟨ss, rfl, sl, _⟩ := hI
    rw [List.length_map]
    omega
  · obtain ⟨ss, rfl, sl, sk, snm, rfl⟩ := hI
    obtain ⟨y, hy, rfl⟩ := map_get hd
    have hi : i < ws1.length := (List.getElem?_eq_some_iff.mp hy).1
    refine g_name (by decide) (ev_yes _ _ (iteT (w_callR ho (w_cons (Ev.w (ev_v rfl) (w_cons (Ev.w (ev_v rfl) (w_cons (Ev.w (ev_v rfl) (w_nil ⟨_, _, rfl, (⟨w2n, w2d, by omega, by omega, by omega⟩), fun sc hsc => ?_⟩))))))))))
    refine ⟨_, rfl, ss ++ [sc], by rw [List.map_append]; rfl, by rw [List.length_append, sl]; rfl, fun x hx => ?_, by rw [List.map_append, snm, List.take_add_one, hy]; show _ ++ [sc.nm] = _ ++ [y]; rw [hsc.1], by omega⟩
    rcases List.mem_append.mp hx with z | z
    · exact sk x z
    · rw [List.mem_singleton.mp z]
      obtain ⟨e, sg⟩ := hsc
      exact ⟨by rw [e]; exact w1n y (List.mem_of_getElem? hy), sg.l1, sg.l2, sg.l8, fun x hx => w2n x (sg.mem x hx), sg.ok⟩
  obtain ⟨ss, rfl, sl, sk, snm, rfl⟩ := hI
  rw [List.length_map] at sl ⊢
  rw [List.length_map, List.take_length] at snm
  refine w_nil ⟨_, d_tuple rfl, ?_⟩
  -- the marks that are used
  refine s_seq (s_set (w_lc (i_lstW (w_sortS (Ev.w (ev_v rfl) ⟨ws2, rfl, by omega, fun ys pm so => ⟨ys.map .str, rfl, ?_, fun i acc m => ∃ hs : List Str, acc = hs.map .str ∧ hs.length ≤ i ∧ (∀ y ∈ hs, Nm y) ∧ m = n + 1 + 1200 + 1 + 1200 + 60 * ws1.length, ⟨[], rfl, Nat.le_refl _, (fun _ z => nomatch z), rfl⟩, fun i acc m hI => ?_, fun i d acc m hd hI => ?_, fun acc m hI => ?_⟩⟩)))))
  · rw [List.length_map, pm.length_eq]
    omega
  · obtain ⟨hs, rfl, hl, _⟩ := hI
    rw [List.length_map]
    exact hl
  · obtain ⟨hs, rfl, hl, hk, rfl⟩ := hI
    obtain ⟨y, hy, rfl⟩ := map_get hd
    have yn : Nm y := w2n y (pm.mem_iff.mp (List.mem_of_getElem? hy))
    refine g_name (by decide) ((ev_tB (ev_cb (ev_cons (ev_lc (i_tup (ev_v rfl)) (by omega) (fun x hx N hN => (g_name (by decide) hN)) (fun x hx => ev_yes) (fun x hx hp => (ev_op (ev_v rfl) (ev_op (ev_v rfl) ev_int (d_ixT rfl)) (d_inS rfl))) (fun x hx hp => rfl)) ev_nil) (d_any (show some _ = some ((ss.map fun s => decide (y ∈ s.ms)).map PyData.bool) by rw [filt, List.map_map]; rfl)))) _ _ ?_)
    generalize (ss.map fun s => decide (y ∈ s.ms)).any id = c
    cases c with
    | true =>
      refine iteT (Ev.w (ev_v rfl) ⟨_, rfl, hs ++ [y], by rw [List.map_append]; rfl, ?_, fun x hx => ?_, rfl⟩)
      · rw [List.length_append]
        show hs.length + 1 ≤ i + 1
        omega
      · rcases List.mem_append.mp hx with z | z
        · exact hk x z
        · rw [List.mem_singleton.mp z]
          exact yn
    | false => exact iteF ⟨hs, rfl, by omega, hk, rfl⟩
  obtain ⟨us, rfl, ul, un, rfl⟩ := hI
  rw [List.length_map, pm.length_eq] at ul
  -- halts
  refine s_seq (s_set (w_cb (w_cons (w_lc ((i_lst (ev_v rfl) rfl) _ _ ⟨?_, fun i acc m => ∃ hs : List Str, acc = hs.map .str ∧ hs.length ≤ i ∧ (∀ y ∈ hs, Nm y) ∧ m = n + 1 + 1200 + 1 + 1200 + 60 * ws1.length + i, ⟨[], rfl, Nat.le_refl _, (fun _ z => nomatch z), rfl⟩, fun i acc m hI => ?_, fun i d acc m hd hI => ?_, fun acc m hI => ?_⟩)))))
  · rw [List.length_map]
    omega
  · obtain ⟨hs, rfl, hl, _⟩ := hI
    rw [List.length_map]
    exact hl
  · obtain ⟨hs, rfl, hl, hk, rfl⟩ := hI
    obtain ⟨y, hy, rfl⟩ := map_get hd
    have hi : i < us.length := (List.getElem?_eq_some_iff.mp hy).1
    have yn : Nm y := un y (List.mem_of_getElem? hy)
    refine g_name (by decide) (w_test (w_op (w_nextC ho rfl ⟨by decide, by decide⟩ (by omega) (fun v ha hb => Ev.w ev_int ⟨_, d_eqI, _, rfl, ?_⟩))))
    cases decide (v = 0) with
    | true =>
      refine iteT (Ev.w (ev_v rfl) ⟨_, rfl, hs ++ [y], by rw [List.map_append]; rfl, ?_, fun x hx => ?_, by omega⟩)
      · rw [List.length_append]
        show hs.length + 1 ≤ i + 1
        omega
      · rcases List.mem_append.mp hx with z | z
        · exact hk x z
        · rw [List.mem_singleton.mp z]
          exact yn
    | false => exact iteF ⟨hs, rfl, by omega, hk, by omega⟩
  obtain ⟨hs, rfl, hl, hk, rfl⟩ := hI
  rw [List.length_map] at hl ⊢
  refine w_nil ⟨_, d_tuple rfl, ?_⟩
  -- what stands beside
  refine s_seqJ (fun Γ' n' => ∃ d, Γ' = [.dw, .da (.int most), .own (ws1.map .str), .da (.list (ws2.map .str)), .da (.tuple (ss.map secD)), .own (us.map .str), .da (.tuple (hs.map .str)), .da d, .no, .no, .no, .no] ∧ (Sm 600 2 d ∧ NoL d) ∧ n' ≤ n + 3100) ?_ (fun Γ' n' hJ => ?_)
  · refine s_set (w_if (w_and ((ev_test (ev_op (ev_cb (ev_cons (ev_v rfl) ev_nil) (d_len rfl)) ev_int d_ib)) _ _ ?_)))
    rw [List.length_map]
    by_cases h1 : (ws1.length : Int) > 1
    · rw [decide_eq_true h1]
      refine iteT (w_test (w_op (w_nextC ho rfl ⟨by decide, by decide⟩ (by omega) (fun v ha hb => Ev.w ev_int ⟨_, d_eqI, _, rfl, ?_⟩))))
      cases decide (v = 0) with
      | true =>
        refine iteT (Ev.w (ev_tup (ev_cons (ev_cb (ev_cons (ev_sl (ev_v rfl) ev_np (ev_pt ev_int) (d_slL rfl)) ev_nil) (d_tuple rfl)) ev_nil) rfl (Nat.le_of_ble_eq_true rfl)) ⟨_, rfl, ?_, by omega⟩)
        have e : cutD (ws1.map PyData.str) none (some 2) = (ws1.take 2).map .str := by
          unfold cutD
          rw [List.length_map]
          have e1 : HT.sIx ws1.length ws1.length (some ((2 : Nat) : Int)) = min 2 ws1.length := HT.sIx_nat ..
          have e2 : HT.sIx ws1.length ws1.length (some 2) = min 2 ws1.length := e1
          have e0 : HT.sIx ws1.length 0 none = 0 := rfl
          rw [e2, e0, List.drop_zero, Nat.sub_zero, ← List.map_take]
          congr 1
          rw [Nat.min_eq_left (by omega)]
        rw [e]
        exact ⟨(Sm.tup (.cons (sm_strs (k := 2) (fun y hy => w1n y (List.mem_of_mem_take hy)) (by rw [List.length_take]; omega)) .nil)).le (by decide) (by decide), .tup (.cons (NoL.strs _) .nil)⟩
      | false => exact iteF (Ev.w (ev_tup ev_nil rfl (Nat.le_of_ble_eq_true rfl)) ⟨_, rfl, ⟨sm_nilT, .tup .nil⟩, by omega⟩)
    · rw [decide_eq_false h1]
      exact iteF (iteF (Ev.w (ev_tup ev_nil rfl (Nat.le_of_ble_eq_true rfl)) ⟨_, rfl, ⟨sm_nilT, .tup .nil⟩, by omega⟩))
  obtain ⟨bs, rfl, bsm, hn1⟩ := hJ
  -- badges
  refine s_up hn1 (s_seqJ (fun Γ' n' => ∃ d, Γ' = [.dw, .da (.int most), .own (ws1.map .str), .da (.list (ws2.map .str)), .da (.tuple (ss.map secD)), .own (us.map .str), .da (.tuple (hs.map .str)), .da bs, .da d, .no, .no, .no] ∧ (Sm 600 2 d ∧ NoL d) ∧ n' ≤ n + 3200) ?_ (fun Γ' n' hJ => ?_))
  · refine s_set (w_if (w_test (w_op (w_nextC ho rfl ⟨by decide, by decide⟩ (by omega) (fun v ha hb => Ev.w ev_int ⟨_, d_eqI, _, rfl, ?_⟩)))))
    cases decide (v = 0) with
    | true =>
      refine iteT (w_tup (w_cons (w_tup (w_cons (Ev.w ev_str (w_cons (Ev.w ev_str (w_cons (w_op (Ev.w ev_int (w_nextC ho rfl ⟨by decide, by decide⟩ (by omega) (fun u ua ub => ⟨_, d_ii, (w_nil ⟨_, rfl, Nat.le_of_ble_eq_true rfl, (w_nil ⟨_, rfl, Nat.le_of_ble_eq_true rfl, ?_⟩)⟩)⟩))))))))))))
      refine ⟨_, rfl, ?_, by omega⟩
      refine ⟨?_, .tup (.cons (.tup (.cons (.str _) (.cons (.str _) (.cons (.int _) .nil)))) .nil)⟩
      exact (Sm.tup (.cons (.tup (.cons (sm_sh (j := 8) ⟨by decide +kernel, by decide +kernel⟩) (.cons (sm_sh (j := 8) ⟨by decide +kernel, by decide +kernel⟩) (.cons (.int (by omega)) .nil)))) .nil)).le (by decide) (by decide)
    | false => exact iteF (Ev.w (ev_tup ev_nil rfl (Nat.le_of_ble_eq_true rfl)) ⟨_, rfl, ⟨sm_nilT, .tup .nil⟩, by omega⟩)
  obtain ⟨gs, rfl, gsm, hn2⟩ := hJ
  refine s_up (m := n + 5000) (by omega) (s_ret (Ev.w (ev_tup (ev_cons (ev_v rfl) (ev_cons (ev_v rfl) (ev_cons (ev_v rfl) (ev_cons (ev_v rfl) ev_nil)))) rfl (Nat.le_of_ble_eq_true rfl)) ⟨_, rfl, q ss (.tuple (hs.map .str), bs, gs) ⟨⟨by omega, by omega, sk, ⟨?_, bsm.1, gsm.1, NoL.strs _, bsm.2, gsm.2⟩⟩, by rw [snm]; exact w1d⟩⟩))
  exact (sm_strs (k := 60) hk (by omega)).le (by decide) (by decide)
end
end Pb

namespace Pb
open PySem PySem.Spec PyProof.Rows L2 TL
/-! ### legs drawn -/
def LgN (l : Lg) : Prop := ∃ (nm : Str) (i j : Int), l = .leg nm i j ∧ Nm nm ∧ 0 ≤ i ∧ i ≤ 7 ∧ 0 ≤ j ∧ j ≤ 7 ∧ i ≠ j
def LgR (l : Lg) : Prop := l = .ride ∨ LgN l
theorem LgR.ok {l : Lg} (h : LgR l) : LgOk l := by
  rcases h with rfl | ⟨nm, i, j, rfl, a, b, c, d, e, _⟩
  · trivial
  · exact ⟨a.sh, b, c, d, e⟩
def tr_l_leg : TrR := fun as n Q => ∃ (ss : List Sec) (r : D3), as = [.dw, .da (bkD ss r)] ∧ (BookG ss r ∧ n + 1300 < 2 ^ 40) ∧ ∀ l : Lg, LgN l → Q (.da (legD l)) (n + 1300)
def endOf (ss : List Sec) (nm : Str) (i j : Int) : Str := match ss.find? (secHas nm i j) with
  | none => ""
  | some s => s.ms.getD j.toNat ""
def tr_l_end : Tr := fun as P => ∃ (ss : List Sec) (r : D3) (nm : Str) (i j : Int), as = [.da (bkD ss r), .da (legD (.leg nm i j))] ∧ (0 ≤ i ∧ 0 ≤ j) ∧ P (.da (.str (endOf ss nm i j)))
def tr_l_on : TrR := fun as n Q => ∃ (ss : List Sec) (r : D3) (here : Str), as = [.dw, .da (bkD ss r), .da (.str here)] ∧ (BookG ss r ∧ (∃ s ∈ ss, here ∈ s.ms) ∧ n + 1300 < 2 ^ 40) ∧ ∀ l : Lg, LgN l → Q (.da (legD l)) (n + 1300)
def tr_l_legs : TrR := fun as n Q => ∃ (ss : List Sec) (r : D3) (many : Int), as = [.dw, .da (bkD ss r), .da (.int many)] ∧ (BookG ss r ∧ 1 ≤ many ∧ many ≤ 60 ∧ n + 90000 < 2 ^ 40) ∧ ∀ ls : List Lg, ((∀ l ∈ ls, LgR l) ∧ (ls.length : Int) = many) → Q (.da (.tuple (ls.map legD))) (n + 90000)
abbrev s_l_leg : Stmt := top 33
abbrev n_l_leg : List Str := ["_law_draw", "_law_book_here", "_law_way", "_law_name", "_law_marks", "_law_rows", "_law_many", "_law_first", "_law_last"]
abbrev p_l_leg : List Str := ["_law_draw", "_law_book_here"]
theorem sc_l_leg : FnScope n_l_leg p_l_leg (defScope s_l_leg) := ⟨rfl, rfl, rfl, by decide +kernel, rfl, by decide +kernel, by decide +kernel⟩
abbrev s_l_end : Stmt := top 34
abbrev n_l_end : List Str := ["_law_book_here", "_law_leg_here", "_law_name", "_law_marks", "_law_rows"]
abbrev p_l_end : List Str := ["_law_book_here", "_law_leg_here"]
theorem sc_l_end : FnScope n_l_end p_l_end (defScope s_l_end) := ⟨rfl, rfl, rfl, by decide +kernel, rfl, by decide +kernel, by decide +kernel⟩
abbrev s_l_on : Stmt := top 35
abbrev n_l_on : List Str := ["_law_draw", "_law_book_here", "_law_here", "_law_found", "_law_name", "_law_marks", "_law_rows", "_law_first", "_law_many", "_law_last", "_law_at", "_law_mark"]
abbrev p_l_on : List Str := ["_law_draw", "_law_book_here", "_law_here"]
theorem sc_l_on : FnScope n_l_on p_l_on (defScope s_l_on) := ⟨rfl, rfl, rfl, by decide +kernel, rfl, by decide +kernel, by decide +kernel⟩
abbrev s_l_legs : Stmt := top 36
abbrev n_l_legs : List Str := ["_law_draw", "_law_book_here", "_law_many", "_law_found", "_law_loose", "_law_here", "_law_way"]
abbrev p_l_legs : List Str := ["_law_draw", "_law_book_here", "_law_many"]
theorem sc_l_legs : FnScope n_l_legs p_l_legs (defScope s_l_legs) := ⟨rfl, rfl, rfl, by decide +kernel, rfl, by decide +kernel, by decide +kernel⟩
theorem at_one {ws : List Str} (h : (ws.length : Int) = 1) : atI (ws.map PyData.str) 0 = some (.str (ws.getD 0 "")) := by
  match ws, h with
  | [y], _ => rfl
theorem one_mem {ws : List Str} (h : (ws.length : Int) = 1) : ws.getD 0 "" ∈ ws := by
  match ws, h with
  | [y], _ => exact List.mem_singleton.mpr rfl
theorem at_sec {ss : List Sec} {v : Int} (h0 : 0 ≤ v) (h1 : v < (ss.length : Nat)) : ∃ s ∈ ss, atI (ss.map secD) v = some (secD s) := by
  obtain ⟨s, hs, e⟩ := at_any h0 h1
  exact ⟨s, hs, at_map e⟩
section
variable {P : Program} {w : World} {K : PySem.W.Frag} {mg : Str → Option Value} {base : Heap}
theorem kn_l_leg (D : Df K mg "_law_leg" s_l_leg) (B : BW mg) (k_l_next : Kn P w K mg base "_law_next" 2 ["_law_draw", "_law_many"] (spR K trNext)) (k_l_words : Kn P w K mg base "_law_words" 3 p_l_words (spR K tr_l_words)) : Kn P w K mg base "_law_leg" 4 p_l_leg (spR K tr_l_leg) := by
  refine D.knR sc_l_leg (fun _ _ _ _ _ _ us hl => match us, hl with | [_, _], _ => rfl) (fun as n Q h => by obtain ⟨ss, r, rfl, _⟩ := h; rfl) (fun f cdv A outer s H E gd hr => ?_)
  refine ⟨_, PSs.nox (pss_cons (ps_asg (pe_tup (pa_cons (pe_kn k_l_next gd (hr.mono (by decide)) rfl (pa_cons (pv 0) (pa_cons pe_int pa_nil))) (pa_cons (pe_ix ix_tup (pe_ix ix_tup (pv 1) pe_int (fun _ _ => rfl)) (pe_kn k_l_next gd (hr.mono (by decide)) rfl (pa_cons (pv 0) (pa_cons (pe_callB call_len_seq rfl B.len PySem.boot_len (pa_cons (pe_ix ix_tup (pv 1) pe_int (fun _ _ => rfl)) pa_nil)) pa_nil))) (fun _ _ => rfl)) pa_nil))) (pg_tup rfl (pgs_cons (pg_name (i := 2) sc_l_leg.nd rfl (.inl rfl)) (pgs_cons (pg_tup rfl (pgs_cons (pg_name (i := 3) sc_l_leg.nd rfl (.inl rfl)) (pgs_cons (pg_name (i := 4) sc_l_leg.nd rfl (.inl rfl)) (pgs_cons (pg_name (i := 5) sc_l_leg.nd rfl (.inl rfl)) pgs_nil)))) pgs_nil)))) (pss_cons (ps_set (i := 6) sc_l_leg.nd rfl (.inl rfl) (pe_ifExp (pt_cmpR op_lt (pv 2) pe_int (nomark _)) pe_int (pe_callB call_len_seq rfl B.len PySem.boot_len (pa_cons (pv 4) pa_nil)))) (pss_cons (ps_par (i := 7) (j := 8) rfl sc_l_leg.nd rfl rfl (by decide) rfl rfl (pa_cons (pe_kn k_l_next gd (hr.mono (by decide)) rfl (pa_cons (pv 0) (pa_cons (pv 6) pa_nil))) (pa_cons (pe_kn k_l_next gd (hr.mono (by decide)) rfl (pa_cons (pv 0) (pa_cons (pe_op op_sub (pv 6) pe_int) pa_nil))) pa_nil)) (by rfl)) (pss_one (ps_ret (pe_tup (pa_cons (pe_ifExp (pt_cmpR op_eq (pv 2) pe_int (nomark _)) (pe_ix ix_list (pe_kn k_l_words gd (hr.mono (by decide)) rfl (pa_cons (pv 0) (pa_cons pe_int pa_nil))) pe_int (fun _ _ => rfl)) (pv 3)) (pa_cons (pv 7) (pa_cons (pe_ifExp (pt_cmpR op_lt (pv 8) (pv 7) (nomark _)) (pv 8) (pe_op op_add (pv 8) pe_int)) pa_nil))))))))), fun p as n Q h => ?_⟩
  try dsimp only [cxOf]
  obtain ⟨ss, r, rfl, ⟨bg, hn⟩, q⟩ := h
  have ho : (some p : Md) ≠ none := fun z => nomatch z
  have b1 := bg.l1
  have b8 := bg.l8
  refine s_seq (s_asg (own := [2, 3, 4, 5]) (w_tup (w_cons (w_nextC ho rfl ⟨by decide, by decide⟩ (by omega) (fun way wa wb => w_cons (w_op (Ev.w (ev_op (ev_v rfl) ev_int (d_ixT rfl)) (w_next ho rfl (Ev.w (ev_cb (ev_cons (ev_op (ev_v rfl) ev_int (d_ixT rfl)) ev_nil) (d_len rfl)) ⟨_, rfl, ?_, ?_, by omega, fun u ua ub => ?_⟩)))))))))
  · rw [List.length_map]
    omega
  · rw [List.length_map]
    omega
  rw [List.length_map] at ub
  obtain ⟨s, hs, es⟩ := at_sec ua ub
  have sk := bg.ss s hs
  have s2 := sk.l2
  have s8 := sk.l8
  refine ⟨_, d_ixT es, w_nil ⟨_, rfl, Nat.le_of_ble_eq_true rfl, _, rfl, g_tup rfl (g_cons (g_name (by decide) (g_cons (g_tup rfl (g_cons (g_name (by decide) (g_cons (g_name (by decide) (g_cons (g_name (by decide) (g_nil (g_nil ?_))))))))))))⟩⟩
  refine s_seqJ (fun Γ' n' => ∃ many : Int, Γ' = [.dw, .da (bkD ss r), .da (.int way), .da (.str s.nm), .da (.tuple (s.ms.map .str)), .da (.tuple (s.ts.map triD)), .da (.int many), .no, .no] ∧ 2 ≤ many ∧ many ≤ 8 ∧ n' = n + 1 + 1) ?_ (fun Γ' n' hJ => ?_)
  · refine s_set (w_if ((ev_test (ev_op (ev_v rfl) ev_int d_ib)) _ _ ?_))
    cases decide (way < 2) with
    | true => exact iteT (Ev.w ev_int ⟨8, rfl, by decide, by decide, rfl⟩)
    | false =>
      refine iteF (Ev.w (ev_cb (ev_cons (ev_v rfl) ev_nil) (d_len rfl)) ⟨_, rfl, ?_, ?_, rfl⟩)
      · rw [List.length_map]
        omega
      · rw [List.length_map]
        omega
  obtain ⟨many, rfl, hm2, hm8, rfl⟩ := hJ
  refine s_seq (s_par (by decide) (w_cons (w_next ho rfl (Ev.w (ev_v rfl) ⟨_, rfl, (by omega), (by omega), by omega, fun fi fia fib => (w_cons (w_next ho rfl (Ev.w (ev_op (ev_v rfl) ev_int d_ii) ⟨_, rfl, (by omega), (by omega), by omega, fun la laa lab => (w_nil ?_)⟩)))⟩))))
  refine ⟨_, _, rfl, ?_⟩
  have fin : ∀ nm : Str, Nm nm → LgN (.leg nm fi (if la < fi then la else la + 1)) := fun nm hnm => by
    refine ⟨nm, fi, _, rfl, hnm, fia, by omega, ?_, ?_, ?_⟩
    · split <;> omega
    · split <;> omega
    · split <;> omega
  have lastE : ∀ (x : Rs → Nat → Prop) (m : Nat), x (.da (.int (if la < fi then la else la + 1))) m → wE K (some p) (tIf (tTest (tOp (rI0 fun i j => .bl (decide (i < j))) (tVar 8) (tVar 7))) (tVar 8) (tOp (rI0 fun i j => .int (i + j)) (tVar 8) (tC (.int 1)))) [.dw, .da (bkD ss r), .da (.int way), .da (.str s.nm), .da (.tuple (s.ms.map .str)), .da (.tuple (s.ts.map triD)), .da (.int many), .da (.int fi), .da (.int la)] m x := fun x m hx => by
    refine w_if ((ev_test (ev_op (ev_v rfl) (ev_v rfl) d_ib)) _ _ ?_)
    by_cases hc : la < fi
    · rw [decide_eq_true hc]
      rw [if_pos hc] at hx
      exact iteT (Ev.w (ev_v rfl) hx)
    · rw [decide_eq_false hc]
      rw [if_neg hc] at hx
      exact iteF (Ev.w (ev_op (ev_v rfl) ev_int d_ii) hx)
  refine s_ret (w_tup (w_cons (w_if ((ev_test (ev_op (ev_v rfl) ev_int d_eqI)) _ _ ?_))))
  by_cases hc : way = 0
  · rw [decide_eq_true hc]
    refine iteT (w_up (m := n + 100) (by omega) (w_op (w_callR ho (w_cons (Ev.w (ev_v rfl) (w_cons (Ev.w ev_int (w_nil ⟨_, rfl, (⟨by decide, by decide, by omega⟩), fun ws1 hws1 => (Ev.w ev_int ⟨_, d_ixL rfl (at_one hws1.1), ?_⟩)⟩))))))))
    exact w_cons (Ev.w (ev_v rfl) (w_cons (lastE _ _ (w_nil ⟨_, rfl, Nat.le_of_ble_eq_true rfl, _, rfl, q _ (fin _ (hws1.2.1 _ (one_mem hws1.1)))⟩))))
  · rw [decide_eq_false hc]
    refine iteF (w_up (m := n + 1300) (by omega) (Ev.w (ev_v rfl) (w_cons (Ev.w (ev_v rfl) (w_cons (lastE _ _ (w_nil ⟨_, rfl, Nat.le_of_ble_eq_true rfl, _, rfl, q _ (fin _ sk.nm)⟩)))))))
theorem kn_l_end (D : Df K mg "_law_end" s_l_end) (B : BW mg) : Kn P w K mg base "_law_end" 1 p_l_end (spD K tr_l_end) := by
  refine D.knD sc_l_end (fun _ _ _ _ _ _ us hl => match us, hl with | [_, _], _ => rfl) (fun as Q h => by obtain ⟨ss, r, nm, i, j, rfl, _⟩ := h; rfl) (fun f cdv A outer s H E gd hr => ?_)
  refine ⟨_, PSs.nox (pss_cons (ps_for PassesOwn.never rfl (pi_tup (pe_ix ix_tup (pv 0) pe_int (fun _ _ => rfl))) (pg_tup rfl (pgs_cons (pg_name (i := 2) sc_l_end.nd rfl (.inl rfl)) (pgs_cons (pg_name (i := 3) sc_l_end.nd rfl (.inl rfl)) (pgs_cons (pg_name (i := 4) sc_l_end.nd rfl (.inl rfl)) pgs_nil)))) (pss_one (ps_if (PW.pt (pw_and (pt_cmpR op_eq (pv 2) (pe_ix ix_tup (pv 1) pe_int (fun _ _ => rfl)) (nomark _)) (pw_and1 (pt_cmpR op_lt (pe_callB (call_max2 rfl) rfl B.max bt_max (pa_cons (pe_ix ix_tup (pv 1) pe_int (fun _ _ => rfl)) (pa_cons (pe_ix ix_tup (pv 1) pe_int (fun _ _ => rfl)) pa_nil))) (pe_callB call_len_seq rfl B.len PySem.boot_len (pa_cons (pv 3) pa_nil)) (nomark _))))) (pss_one (ps_ret (pe_ix ix_tup (pv 3) (pe_ix ix_tup (pv 1) pe_int (fun _ _ => rfl)) (fun _ _ => rfl)))) pss_nil))) (pss_one (ps_ret pe_str))), fun as Q h => ?_⟩
  try dsimp only [cxOf]
  obtain ⟨ss, r, nm, i, j, rfl, ⟨i0, j0⟩, q⟩ := h
  unfold endOf at q
  refine s_seq (s_for (own := [2, 3, 4]) ((f_tup (ev_op (ev_v rfl) ev_int (d_ixT rfl))) _ _ ⟨fun k Γ' _ => ∃ x y z, Γ' = [.da (bkD ss r), .da (legD (.leg nm i j)), x, y, z] ∧ ∀ s ∈ ss.take k, secHas nm i j s = false, ⟨.no, .no, .no, rfl, fun s hs => nomatch hs⟩, fun k d Γ' m hd hI => ?_, fun Γ' m hI => ?_⟩))
  · obtain ⟨x, y, z, rfl, hno⟩ := hI
    obtain ⟨s, hs, rfl⟩ := map_get hd
    refine g_tup rfl (g_cons (g_name (by decide) (g_cons (g_name (by decide) (g_cons (g_name (by decide) (g_nil ?_)))))))
    have tc : EvT K none (tAnd (tTest (tOp rEq (tVar 2) (tOp (rIxT K) (tVar 1) (tC (.int 0))))) (tTest (tOp (rI0 fun i j => .bl (decide (i < j))) (tCB rMax2 (tCons (tOp (rIxT K) (tVar 1) (tC (.int 1))) (tCons (tOp (rIxT K) (tVar 1) (tC (.int 2))) tNil))) (tCB (rLenQ K) (tCons (tVar 3) tNil))))) [.da (bkD ss r), .da (legD (.leg nm i j)), .da (.str s.nm), .da (.tuple (s.ms.map .str)), .da (.tuple (s.ts.map triD))] (secHas nm i j s) := EvT.eq (ev_and (ev_test (ev_op (ev_v rfl) (ev_op (ev_v rfl) ev_int (d_ixT rfl)) d_eqS)) (fun hc => (ev_test (ev_op (ev_cb (ev_cons (ev_op (ev_v rfl) ev_int (d_ixT rfl)) (ev_cons (ev_op (ev_v rfl) ev_int (d_ixT rfl)) ev_nil)) d_max2) (ev_cb (ev_cons (ev_v rfl) ev_nil) (d_len rfl)) d_ib)))) (by rw [List.length_map]; rfl)
    refine s_ite tc (fun hc => ?_) (fun hc => s_next ⟨_, _, _, rfl, take_snoc hs hno hc⟩)
    have hh := hc
    unfold secHas at hh
    rw [Bool.and_eq_true, decide_eq_true_eq, decide_eq_true_eq] at hh
    obtain ⟨hi, hj⟩ := hi_le hh.2
    refine s_ret (Ev.w (ev_op (ev_v rfl) (ev_op (ev_v rfl) ev_int (d_ixT rfl)) (d_ixT (at_str j0 hj))) ⟨_, rfl, ?_⟩)
    rw [find_first hs hno hc] at q
    exact q
  · obtain ⟨x, y, z, rfl, hno⟩ := hI
    rw [List.length_map, List.take_length] at hno
    refine s_ret (Ev.w ev_str ⟨_, rfl, ?_⟩)
    rw [find_no hno] at q
    exact q
end
end Pb

namespace Pb
open PySem PySem.Spec PyProof.Rows L2 TL
theorem EvI.eq {K : PySem.W.Frag} {od : Md} {wi : TI} {Γ : List Sl} {ds ds' : List PyData} (h : EvI K od wi Γ ds) (e : ds = ds') : EvI K od wi Γ ds' := by
  rw [← e]
  exact h
def enS (ms : List Str) : List (Nat × Str) := (List.range ms.length).zip ms
def enP (p : Nat × Str) : PyData := .tuple [.int (0 + (p.1 : Nat)), .str p.2]
theorem enumE (ms : List Str) : enumD (ms.map PyData.str) = (enS ms).map enP := by
  unfold enumD zipD rngD enS
  rw [List.length_map, List.zip_map, List.map_map]
  rfl
theorem enS_mem {ms : List Str} {p : Nat × Str} (h : p ∈ enS ms) : p.1 < ms.length ∧ p.2 ∈ ms := by
  have h' : (p.1, p.2) ∈ (List.range ms.length).zip ms := h
  obtain ⟨a, b⟩ := List.of_mem_zip h'
  exact ⟨List.mem_range.mp a, b⟩
theorem enS_has {ms : List Str} {y : Str} (h : y ∈ ms) : ∃ p ∈ enS ms, p.2 = y := by
  obtain ⟨i, hi, rfl⟩ := List.getElem_of_mem h
  refine ⟨(i, ms[i]), ?_, rfl⟩
  unfold enS
  rw [List.mem_iff_getElem]
  refine ⟨i, by rw [List.length_zip, List.length_range]; omega, ?_⟩
  rw [List.getElem_zip, List.getElem_range]
def OnOk (d : PyData) : Prop := ∃ (nm : Str) (a m : Int), d = .tuple [.str nm, .int a, .int m] ∧ Nm nm ∧ 0 ≤ a ∧ a < m ∧ 2 ≤ m ∧ m ≤ 8
section
variable {P : Program} {w : World} {K : PySem.W.Frag} {mg : Str → Option Value} {base : Heap}
theorem kn_l_on (D : Df K mg "_law_on" s_l_on) (B : BW mg) (k_l_next : Kn P w K mg base "_law_next" 2 ["_law_draw", "_law_many"] (spR K trNext)) : Kn P w K mg base "_law_on" 3 p_l_on (spR K tr_l_on) := by
  refine D.knR sc_l_on (fun _ _ _ _ _ _ us hl => match us, hl with | [_, _, _], _ => rfl) (fun as n Q h => by obtain ⟨ss, r, y, rfl, _⟩ := h; rfl) (fun f cdv A outer s H E gd hr => ?_)
  refine ⟨_, PSs.nox (pss_cons (ps_set (i := 3) sc_l_on.nd rfl (.inl rfl) (pe_lst pa_nil)) (pss_cons (ps_for PassesOwn.never rfl (pi_tup (pe_ix ix_tup (pv 1) pe_int (fun _ _ => rfl))) (pg_tup rfl (pgs_cons (pg_name (i := 4) sc_l_on.nd rfl (.inr rfl)) (pgs_cons (pg_name (i := 5) sc_l_on.nd rfl (.inr rfl)) (pgs_cons (pg_name (i := 6) sc_l_on.nd rfl (.inl rfl)) pgs_nil)))) (pss_one (ps_expr (pe_bm PySem.F.plainAttrs_list PySem.F.slot_list_extend PySem.F.type_list_extend mt_extend (pv 3) (pa_cons (pe_lc (own := [("_law_at", 10), ("_law_mark", 11)]) (g := gTup K 2 (gCons (gName 10) (gCons (gName 11) (gNil)))) (tt := tTest (tOp rEq (tVar 11) (tVar 2))) (te := tTup (tCons (tVar 4) (tCons (tVar 10) (tCons (tCB (rLenQ K) (tCons (tVar 5) (tNil))) (tNil))))) rfl sc_l_on.nd (pi_enT rfl B.enumerate (pa_cons (pv 5) pa_nil)) (blkOk_by (N := n_l_on) (sc := defScope s_l_on) (by decide +kernel)) (fun _ _ _ _ _ => (pg_tup rfl (pgs_cons (pg_name (i := 10) sc_l_on.nd rfl (.inl rfl)) (pgs_cons (pg_name (i := 11) sc_l_on.nd rfl (.inl rfl)) pgs_nil)))) (fun _ _ _ _ _ => (pts_one (pt_cmpR op_eq (pv 11) (pv 2) (nomark _)))) (fun _ _ _ _ _ => (pe_tup (pa_cons (pv 4) (pa_cons (pv 10) (pa_cons (pe_callB call_len_seq rfl B.len PySem.boot_len (pa_cons (pv 5) pa_nil)) pa_nil)))))) pa_nil))))) (pss_cons (ps_asg (pe_ix ix_list (pv 3) (pe_kn k_l_next gd (hr.mono (by decide)) rfl (pa_cons (pv 0) (pa_cons (pe_callB call_len_seq rfl B.len PySem.boot_len (pa_cons (pv 3) pa_nil)) pa_nil))) (fun _ _ => rfl)) (pg_tup rfl (pgs_cons (pg_name (i := 4) sc_l_on.nd rfl (.inr rfl)) (pgs_cons (pg_name (i := 7) sc_l_on.nd rfl (.inl rfl)) (pgs_cons (pg_name (i := 8) sc_l_on.nd rfl (.inl rfl)) pgs_nil))))) (pss_cons (ps_set (i := 9) sc_l_on.nd rfl (.inl rfl) (pe_kn k_l_next gd (hr.mono (by decide)) rfl (pa_cons (pv 0) (pa_cons (pe_op op_sub (pv 8) pe_int) pa_nil)))) (pss_one (ps_ret (pe_tup (pa_cons (pv 4) (pa_cons (pv 7) (pa_cons (pe_ifExp (pt_cmpR op_lt (pv 9) (pv 7) (nomark _)) (pv 9) (pe_op op_add (pv 9) pe_int)) pa_nil)))))))))), fun p as n Q h => ?_⟩
  try dsimp only [cxOf]
  obtain ⟨ss, r, here, rfl, ⟨bg, hin, hn⟩, q⟩ := h
  have ho : (some p : Md) ≠ none := fun z => nomatch z
  have b8 := bg.l8
  refine s_seq (s_set (Ev.w (ev_lst ev_nil rfl (Nat.le_of_ble_eq_true rfl)) ?_))
  refine s_seqJ (fun Γ' n' => ∃ fs : List PyData, ∃ x4 x5 x6, Γ' = [.dw, .da (bkD ss r), .da (.str here), .own fs, x4, x5, x6, .no, .no, .no, .no, .no] ∧ (∀ d ∈ fs, OnOk d) ∧ fs ≠ [] ∧ fs.length ≤ 100 ∧ n' = n) ?_ (fun Γ' n' hJ => ?_)
  · refine s_for (own := [4, 5, 6]) ((f_tup (ev_op (ev_v rfl) ev_int (d_ixT rfl))) _ _ ⟨fun k Γ' n' => ∃ fs : List PyData, ∃ x4 x5 x6, Γ' = [.dw, .da (bkD ss r), .da (.str here), .own fs, x4, x5, x6, .no, .no, .no, .no, .no] ∧ (∀ d ∈ fs, OnOk d) ∧ ((∃ s ∈ ss.take k, here ∈ s.ms) → fs ≠ []) ∧ fs.length ≤ 8 * k ∧ n' = n, ⟨[], .no, .no, .no, rfl, (fun _ z => nomatch z), (fun z => by obtain ⟨s, hs, _⟩ := z; exact nomatch hs), Nat.le_refl _, rfl⟩, fun k d Γ' m hd hI => ?_, fun Γ' m hI => ?_⟩)
    · obtain ⟨fs, x4, x5, x6, rfl, fo, fne, fl, rfl⟩ := hI
      obtain ⟨s, hs, rfl⟩ := map_get hd
      have hk : k < ss.length := (List.getElem?_eq_some_iff.mp hs).1
      have sk := bg.ss s (List.mem_of_getElem? hs)
      have s8 := sk.l8
      have s2 := sk.l2
      have el : (enS s.ms).length = s.ms.length := by
        unfold enS
        rw [List.length_zip, List.length_range, Nat.min_self]
      refine g_tup rfl (g_cons (g_name (by decide) (g_cons (g_name (by decide) (g_cons (g_name (by decide) (g_nil ?_)))))))
      refine s_extend (i := 3) rfl (Ev.w (ev_lc (xs := enS s.ms) (enc := enP) (EvI.eq (i_enT (ev_cons (ev_v rfl) ev_nil)) (enumE s.ms)) (by omega) (fun x hx N hN => (g_tup rfl (g_cons (g_name (by decide) (g_cons (g_name (by decide) (g_nil hN))))))) (fun x hx => (ev_test (ev_op (ev_v rfl) (ev_v rfl) d_eqS))) (fun x hx hp => (ev_tup (ev_cons (ev_v rfl) (ev_cons (ev_v rfl) (ev_cons (ev_cb (ev_cons (ev_v rfl) ev_nil) (d_len rfl)) ev_nil))) rfl (Nat.le_of_ble_eq_true rfl))) (fun x hx hp => rfl)) ⟨_, rfl, ?_, _, _, _, _, rfl, fun d hd => ?_, fun hz => ?_, ?_, rfl⟩)
      · rw [List.length_map]
        have := List.length_filter_le (fun x : Nat × Str => decide (x.2 = here)) (enS s.ms)
        omega
      · rcases List.mem_append.mp hd with z | z
        · exact fo d z
        · obtain ⟨x, hx, rfl⟩ := List.mem_map.mp z
          obtain ⟨hx1, _⟩ := List.mem_filter.mp hx
          obtain ⟨ha, _⟩ := enS_mem hx1
          refine ⟨s.nm, _, _, rfl, sk.nm, by omega, ?_, ?_, ?_⟩
          · rw [List.length_map]
            omega
          · rw [List.length_map]
            omega
          · rw [List.length_map]
            omega
      · intro z
        rw [List.append_eq_nil_iff] at z
        obtain ⟨s', hs', hh⟩ := hz
        rw [List.take_add_one, hs] at hs'
        rcases List.mem_append.mp hs' with y | y
        · exact fne ⟨s', y, hh⟩ z.1
        · have e : s' = s := by simpa using y
          subst e
          obtain ⟨p', hp1, hp2⟩ := enS_has hh
          have : p' ∈ (enS s'.ms).filter fun x : Nat × Str => decide (x.2 = here) := List.mem_filter.mpr ⟨hp1, decide_eq_true hp2⟩
          rw [List.map_eq_nil_iff] at z
          rw [z.2] at this
          exact nomatch this
      · rw [List.length_append, List.length_map]
        have := List.length_filter_le (fun x : Nat × Str => decide (x.2 = here)) (enS s.ms)
        omega
    · obtain ⟨fs, x4, x5, x6, rfl, fo, fne, fl, rfl⟩ := hI
      rw [List.length_map] at fne fl
      rw [List.take_length] at fne
      exact ⟨fs, _, _, _, rfl, fo, fne hin, by omega, rfl⟩
  obtain ⟨fs, x4, x5, x6, rfl, fo, fne, fl, rfl⟩ := hJ
  have fp : 0 < fs.length := List.length_pos_iff.mpr fne
  refine s_seq (s_asg (own := [4, 7, 8]) (w_op (Ev.w (ev_v rfl) (w_next ho rfl (Ev.w (ev_cb (ev_cons (ev_v rfl) ev_nil) (d_len rfl)) ⟨_, rfl, by omega, by omega, by omega, fun u ua ub => ?_⟩)))))
  obtain ⟨d, dm, de⟩ := at_any (xs := fs) ua ub
  obtain ⟨nm, a, m, rfl, nn, a0, am, m2, m8⟩ := fo d dm
  refine ⟨_, d_ixL rfl de, _, rfl, g_tup rfl (g_cons (g_name (by decide) (g_cons (g_name (by decide) (g_cons (g_name (by decide) (g_nil ?_)))))))⟩
  refine s_seq (s_set (w_next ho rfl (Ev.w (ev_op (ev_v rfl) ev_int d_ii) ⟨_, rfl, (by omega), (by omega), by omega, fun la laa lab => ?_⟩)))
  refine s_up (m := n' + 1300) (by omega) (s_ret (Ev.w (ev_tup (ev_cons (ev_v rfl) (ev_cons (ev_v rfl) (ev_cons (ev_ifD (ev_test (ev_op (ev_v rfl) (ev_v rfl) d_ib)) (fun _ => ev_v rfl) (fun _ => (ev_op (ev_v rfl) ev_int d_ii))) ev_nil))) rfl (Nat.le_of_ble_eq_true rfl)) ⟨_, rfl, ?_⟩))
  have e : (if decide (la < a) = true then PyData.int la else .int (la + 1)) = .int (if la < a then la else la + 1) := by
    by_cases h : la < a <;> simp [h]
  rw [e]
  refine q (.leg nm a (if la < a then la else la + 1)) ⟨nm, a, _, rfl, nn, a0, by omega, ?_, ?_, ?_⟩
  · split <;> omega
  · split <;> omega
  · split <;> omega
end
end Pb

namespace Pb
open PySem PySem.Spec PyProof.Rows L2 TL
theorem endOf_mem {ss : List Sec} {nm : Str} {i j : Int} (j0 : 0 ≤ j) (h : endOf ss nm i j ≠ "") : ∃ s ∈ ss, endOf ss nm i j ∈ s.ms := by
  unfold endOf at h ⊢
  cases e : ss.find? (secHas nm i j) with
  | none =>
    rw [e] at h
    exact absurd rfl h
  | some s =>
    have hh := List.find?_some e
    unfold secHas at hh
    rw [Bool.and_eq_true, decide_eq_true_eq, decide_eq_true_eq] at hh
    obtain ⟨hi, hj⟩ := hi_le hh.2
    refine ⟨s, List.mem_of_find?_eq_some e, ?_⟩
    show s.ms.getD j.toNat "" ∈ s.ms
    have hk : j.toNat < s.ms.length := by omega
    rw [List.getD_eq_getElem?_getD, List.getElem?_eq_getElem hk]
    exact List.getElem_mem hk
section
variable {P : Program} {w : World} {K : PySem.W.Frag} {mg : Str → Option Value} {base : Heap}
theorem kn_l_legs (D : Df K mg "_law_legs" s_l_legs) (B : BW mg) (k_l_next : Kn P w K mg base "_law_next" 2 ["_law_draw", "_law_many"] (spR K trNext)) (k_l_leg : Kn P w K mg base "_law_leg" 4 p_l_leg (spR K tr_l_leg)) (k_l_end : Kn P w K mg base "_law_end" 1 p_l_end (spD K tr_l_end)) (k_l_on : Kn P w K mg base "_law_on" 3 p_l_on (spR K tr_l_on)) : Kn P w K mg base "_law_legs" 5 p_l_legs (spR K tr_l_legs) := by
  refine D.knR sc_l_legs (fun _ _ _ _ _ _ us hl => match us, hl with | [_, _, _], _ => rfl) (fun as n Q h => by obtain ⟨ss, r, y, rfl, _⟩ := h; rfl) (fun f cdv A outer s H E gd hr => ?_)
  refine ⟨_, PSs.nox (pss_cons (ps_par (i := 3) (j := 4) rfl sc_l_legs.nd rfl rfl (by decide) rfl rfl (pa_cons (pe_lst (pa_cons (pe_kn k_l_leg gd (hr.mono (by decide)) rfl (pa_cons (pv 0) (pa_cons (pv 1) pa_nil))) pa_nil)) (pa_cons (pe_cmpR op_eq (pe_kn k_l_next gd (hr.mono (by decide)) rfl (pa_cons (pv 0) (pa_cons pe_int pa_nil))) pe_int (nomark _)) pa_nil)) (by rfl)) (pss_cons (ps_while PassesOwn.never (pt_cmpR op_lt (pe_callB call_len_seq rfl B.len PySem.boot_len (pa_cons (pv 3) pa_nil)) (pv 2) (nomark _)) (pss_cons (ps_par (i := 5) (j := 6) rfl sc_l_legs.nd rfl rfl (by decide) rfl rfl (pa_cons (pe_kn k_l_end gd (hr.mono (by decide)) rfl (pa_cons (pv 1) (pa_cons (pe_ix ix_list (pv 3) (pe_un un_neg pe_int) (fun _ _ => rfl)) pa_nil))) (pa_cons (pe_kn k_l_next gd (hr.mono (by decide)) rfl (pa_cons (pv 0) (pa_cons pe_int pa_nil))) pa_nil)) (by rfl)) (pss_one (ps_if (PW.pt (pw_and (pt_cmpR op_lt (pv 6) pe_int (nomark _)) (pw_and1 (pt_cmpR op_le (pe_op op_add (pe_callB call_len_seq rfl B.len PySem.boot_len (pa_cons (pv 3) pa_nil)) pe_int) (pv 2) (nomark _))))) (pss_cons (ps_expr (pe_bm PySem.F.plainAttrs_list PySem.F.slot_list_append PySem.F.type_list_append mt_append (pv 3) (pa_cons (pe_tup (pa_cons pe_str pa_nil)) pa_nil))) (pss_one (ps_expr (pe_bm PySem.F.plainAttrs_list PySem.F.slot_list_append PySem.F.type_list_append mt_append (pv 3) (pa_cons (pe_kn k_l_leg gd (hr.mono (by decide)) rfl (pa_cons (pv 0) (pa_cons (pv 1) pa_nil))) pa_nil))))) (pss_one (ps_if (PW.pt (pw_or (pt_cmpR op_eq (pv 5) pe_str (nomark _)) (pw_or1 (PW.pt (pw_and (pt_val (pv 4)) (pw_and1 (pt_cmpR op_eq (pv 6) pe_int (nomark _)))))))) (pss_one (ps_expr (pe_bm PySem.F.plainAttrs_list PySem.F.slot_list_append PySem.F.type_list_append mt_append (pv 3) (pa_cons (pe_kn k_l_leg gd (hr.mono (by decide)) rfl (pa_cons (pv 0) (pa_cons (pv 1) pa_nil))) pa_nil)))) (pss_one (ps_expr (pe_bm PySem.F.plainAttrs_list PySem.F.slot_list_append PySem.F.type_list_append mt_append (pv 3) (pa_cons (pe_kn k_l_on gd (hr.mono (by decide)) rfl (pa_cons (pv 0) (pa_cons (pv 1) (pa_cons (pv 5) pa_nil)))) pa_nil)))))))))) (pss_one (ps_ret (pe_callTy call_tuple_of rfl B.tuple bt_tuple (pa_cons (pv 3) pa_nil)))))), fun p as n Q h => ?_⟩
  try dsimp only [cxOf]
  obtain ⟨ss, r, many, rfl, ⟨bg, m1, m60, hn⟩, q⟩ := h
  have ho : (some p : Md) ≠ none := fun z => nomatch z
  refine s_seq (s_par (by decide) (w_cons (w_lst (w_cons (w_callR ho (w_cons (Ev.w (ev_v rfl) (w_cons (Ev.w (ev_v rfl) (w_nil ⟨_, _, rfl, (⟨bg, by omega⟩), fun l hl => ?_⟩))))))))))
  refine w_nil ⟨_, rfl, Nat.le_of_ble_eq_true rfl, w_cons (w_op (w_nextC ho rfl ⟨by decide, by decide⟩ (by omega) (fun v ha hb => Ev.w ev_int ⟨_, d_eqI, w_nil ⟨_, _, rfl, ?_⟩⟩)))⟩
  generalize decide (v = 0) = lo
  refine s_seqJ (fun Γ' n' => ∃ (ls : List Lg) (x5 x6 : Sl), Γ' = [.dw, .da (bkD ss r), .da (.int many), .own (ls.map legD), .da (.bool lo), x5, x6] ∧ (∀ l ∈ ls, LgR l) ∧ (ls.length : Int) = many ∧ n' ≤ n + 1400 * ls.length) ?_ (fun Γ' n' hJ => ?_)
  · refine s_while (fun m Γ' n' => ∃ (ls0 : List Lg) (nm : Str) (i j : Int) (x5 x6 : Sl), Γ' = [.dw, .da (bkD ss r), .da (.int many), .own ((ls0 ++ [Lg.leg nm i j]).map legD), .da (.bool lo), x5, x6] ∧ (∀ l ∈ ls0, LgR l) ∧ LgN (.leg nm i j) ∧ ((ls0 ++ [Lg.leg nm i j]).length : Int) + (m : Nat) = many ∧ n' ≤ n + 1400 * (ls0 ++ [Lg.leg nm i j]).length) ?_ (fun m Γ' n' hI => ?_)
    · obtain ⟨nm, i, j, rfl, hh⟩ := hl
      refine ⟨(many - 1).toNat, [], nm, i, j, .no, .no, rfl, (fun _ z => nomatch z), ⟨nm, i, j, rfl, hh⟩, ?_, ?_⟩
      · show ((1 : Nat) : Int) + _ = many
        omega
      · show n + 1300 + 1 ≤ n + 1400 * 1
        omega
    obtain ⟨ls0, nm, i, j, x5, x6, rfl, lr, ln, hm, hn'⟩ := hI
    have lnc := ln
    obtain ⟨nm', i', j', eq, nn, i0, i7, j0, j7, ij⟩ := ln
    cases eq
    have all : ∀ l ∈ ls0 ++ [Lg.leg nm i j], LgR l := fun l hl => by
      rcases List.mem_append.mp hl with z | z
      · exact lr l z
      · rw [List.mem_singleton.mp z]
        exact .inr lnc
    have le1 : (ls0 ++ [Lg.leg nm i j]).length = ls0.length + 1 := by rw [List.length_append]; rfl
    have le2 : ∀ x, (ls0 ++ [Lg.leg nm i j] ++ [x]).length = (ls0 ++ [Lg.leg nm i j]).length + 1 := fun x => by rw [List.length_append]; rfl
    have le3 : ∀ x y, (ls0 ++ [Lg.leg nm i j] ++ [x] ++ [y]).length = (ls0 ++ [Lg.leg nm i j]).length + 1 + 1 := fun x y => by rw [List.length_append, le2]; rfl
    refine (ev_test (ev_op (ev_cb (ev_cons (ev_v rfl) ev_nil) (d_len rfl)) (ev_v rfl) d_ib)) _ _ ?_
    rw [List.length_map]
    by_cases hlt : ((ls0 ++ [Lg.leg nm i j]).length : Int) < many
    · rw [decide_eq_true hlt]
      refine iteT (s_up hn' ?_)
      refine s_seq (s_par (by decide) (w_cons (Ev.w (ev_call (ev_cons (ev_v rfl) (ev_cons (ev_op (ev_v rfl) (ev_un ev_int d_neg) (d_ixL rfl (at_lastM _ _))) ev_nil)) rfl (fun _ hp => ⟨_, _, _, _, _, rfl, (⟨i0, j0⟩), hp⟩)) (w_cons (w_nextC ho rfl ⟨by decide, by decide⟩ (by omega) (fun way wa wb => w_nil ⟨_, _, rfl, ?_⟩))))))
      refine s_ite (EvT.eq (ev_and (ev_test (ev_op (ev_v rfl) ev_int d_ib)) (fun hc => (ev_test (ev_op (ev_op (ev_cb (ev_cons (ev_v rfl) ev_nil) (d_len rfl)) ev_int d_ii) (ev_v rfl) d_ib)))) rfl) (fun hc => ?_) (fun hc => ?_)
      · rw [Bool.and_eq_true, decide_eq_true_eq, decide_eq_true_eq, List.length_map] at hc
        refine s_seq (s_append (i := 3) rfl (Ev.w (ev_tup (ev_cons ev_str ev_nil) rfl (Nat.le_of_ble_eq_true rfl)) ⟨_, rfl, ?_, ?_⟩))
        · rw [List.length_map]
          omega
        refine s_append (i := 3) rfl (w_callR ho (w_cons (Ev.w (ev_v rfl) (w_cons (Ev.w (ev_v rfl) (w_nil ⟨_, _, rfl, (⟨bg, by omega⟩), fun l hl => ?_⟩))))))
        obtain ⟨nm2, i2, j2, rfl, hh⟩ := hl
        refine ⟨_, rfl, ?_, m - 2, by omega, ls0 ++ [Lg.leg nm i j] ++ [Lg.ride], nm2, i2, j2, _, _, by rw [List.map_append (l₁ := ls0 ++ [Lg.leg nm i j] ++ [Lg.ride]), List.map_append (l₁ := ls0 ++ [Lg.leg nm i j])]; rfl, fun l hl => ?_, ⟨nm2, i2, j2, rfl, hh⟩, ?_, ?_⟩
        · rw [List.length_append, List.length_map]
          show _ + 1 < 30000
          omega
        · rcases List.mem_append.mp hl with z | z
          · exact all l z
          · rw [List.mem_singleton.mp z]
            exact .inl rfl
        · rw [le3]
          omega
        · rw [le3]
          omega
      · refine s_ite (ev_or (ev_test (ev_op (ev_v rfl) ev_str d_eqS)) (fun hc => (ev_and (ev_tB (ev_v rfl)) (fun hc => (ev_test (ev_op (ev_v rfl) ev_int d_eqI)))))) (fun hc2 => ?_) (fun hc2 => ?_)
        · refine s_append (i := 3) rfl (w_callR ho (w_cons (Ev.w (ev_v rfl) (w_cons (Ev.w (ev_v rfl) (w_nil ⟨_, _, rfl, (⟨bg, by omega⟩), fun l hl => ?_⟩))))))
          obtain ⟨nm2, i2, j2, rfl, hh⟩ := hl
          refine ⟨_, rfl, ?_, m - 1, by omega, ls0 ++ [Lg.leg nm i j], nm2, i2, j2, _, _, by rw [List.map_append (l₁ := ls0 ++ [Lg.leg nm i j])]; rfl, all, ⟨nm2, i2, j2, rfl, hh⟩, ?_, ?_⟩
          · rw [List.length_map]
            omega
          · rw [le2]
            omega
          · rw [le2]
            omega
        · rw [Bool.or_eq_false_iff] at hc2
          have hne : endOf ss nm i j ≠ "" := of_decide_eq_false hc2.1
          refine s_append (i := 3) rfl (w_callR ho (w_cons (Ev.w (ev_v rfl) (w_cons (Ev.w (ev_v rfl) (w_cons (Ev.w (ev_v rfl) (w_nil ⟨_, _, _, rfl, (⟨bg, endOf_mem j0 hne, by omega⟩), fun l hl => ?_⟩))))))))
          obtain ⟨nm2, i2, j2, rfl, hh⟩ := hl
          refine ⟨_, rfl, ?_, m - 1, by omega, ls0 ++ [Lg.leg nm i j], nm2, i2, j2, _, _, by rw [List.map_append (l₁ := ls0 ++ [Lg.leg nm i j])]; rfl, all, ⟨nm2, i2, j2, rfl, hh⟩, ?_, ?_⟩
          · rw [List.length_map]
            omega
          · rw [le2]
            omega
          · rw [le2]
            omega
    · rw [decide_eq_false hlt]
      exact iteF ⟨ls0 ++ [Lg.leg nm i j], _, _, rfl, all, by omega, hn'⟩
  obtain ⟨ls, x5, x6, rfl, lr, ll, hn'⟩ := hJ
  exact s_up (m := n + 90000) (by omega) (s_ret (Ev.w (ev_cb (ev_cons (ev_v rfl) ev_nil) (d_tuple rfl)) ⟨_, rfl, q ls ⟨lr, ll⟩⟩))
end
end Pb

namespace Pb
open PySem PySem.Spec PyProof.Rows L2 TL
/-! ### comprehensions with two fors -/
section
variable (K : PySem.W.Frag) (od : Md)
/-- what the inner for of a comprehension walks over: tuples, kept lists, new ones -/
def wJ (wi : TI) (Γ : List Sl) (n : Nat) (Q : List PyData → Nat → Prop) : Prop :=
  ∀ (F B : Addr → Prop) (σ : L2.St) (H : Hp), Fits K od F B Γ σ H → Gd od n H → ∀ R : It → Hp → Prop, (∀ J H' ds n' F', Q ds n' → Go K od F B Γ σ H F' H' n' → WalkD K od F' (fun b => H b = none) H' J ds → R J H') → wi σ H R
def EvJ (wi : TI) (Γ : List Sl) (ds : List PyData) : Prop := ∀ n Q, Q ds n → wJ K od wi Γ n Q
end
/-- all but D and the draw stays -/
def Sty (od : Md) (D : Addr) (H H' : Hp) : Prop := ∀ b o, b ≠ D → (∀ p, od = some p → b ≠ p.1) → H b = some o → H' b = some o
section
variable {K : PySem.W.Frag} {od : Md} {F B : Addr → Prop} {Γ : List Sl} {σ : L2.St} {H H' H'' : Hp} {n : Nat} {D : Addr}
theorem j_tup {t : TE} {ds : List PyData} (h : Ev K od t Γ (.da (.tuple ds))) : EvJ K od (iTup K t) Γ ds := by
  intro n Q q F B σ H f g R k
  refine h n (fun r m => r = .da (.tuple ds) ∧ m = n) ⟨rfl, rfl⟩ F B σ H f g _ fun v H1 x m F1 e o1 a1 => ?_
  obtain ⟨rfl, rfl⟩ := e
  obtain ⟨a, vs, rfl, e, t⟩ := Dk.tup' a1
  exact ⟨a, rfl, ⟨_, e.sq⟩, k _ H1 ds m F1 q o1 ((walkD_tup e t).mono fun _ z => z.elim)⟩
theorem j_lstN {t : TE} {ds : List PyData} (h : Ev K od t Γ (.fr ds)) : EvJ K od (iList K t) Γ ds := by
  intro n Q q F B σ H f g R k
  refine h n (fun r m => r = .fr ds ∧ m = n) ⟨rfl, rfl⟩ F B σ H f g _ fun v H1 x m F1 e o1 a1 => ?_
  obtain ⟨rfl, rfl⟩ := e
  obtain ⟨a, rfl, l, na, _, _⟩ := a1
  obtain ⟨vs, e, t⟩ := l
  exact ⟨a, rfl, ⟨_, .of e⟩, k _ H1 ds m F1 q o1 (walkD_lst o1.g na e t)⟩
theorem j_rng1 {t : TA} {j : Int} (h : EvA K od t Γ [.da (.int j)]) (hj : -(2 ^ 62) ≤ j ∧ j < 2 ^ 62) : EvJ K od (iRng1 t) Γ (rngD 0 j.toNat) := by
  intro n Q q F B σ H f g R k
  refine h n (fun r m => r = [.da (.int j)] ∧ m = n) ⟨rfl, rfl⟩ F B σ H f g _ fun v H1 x m F1 e o1 a1 => ?_
  obtain ⟨rfl, rfl⟩ := e
  obtain ⟨u, rfl, a2⟩ := a1.one
  rw [Dk.int' a2]
  exact ⟨j, rfl, hj.1, hj.2, k _ H1 _ m F1 q o1 walkD_rng⟩
theorem Sty.refl (H : Hp) : Sty od D H H := fun _ _ _ _ e => e
theorem Sty.trans (a : Sty od D H H') (b : Sty od D H' H'') : Sty od D H H'' := fun x o h n e => b x o h n (a x o h n e)
theorem Kx.sty (k : Kx od H H') : Sty od D H H' := fun b o _ hn e => by
  cases od with
  | none => exact k _ _ e
  | some p => exact k _ _ (hn p rfl) e
theorem Sty.upd {o : HO} (a : Sty od D H H') : Sty od D H (upd H' D o) := fun b u h n e => by
  rw [upd_ne h]
  exact a b u h n e
theorem notDraw (g : Gd od n H) {b : Addr} {o : HO} (e : H b = some o) (h : ∀ kvs, o ≠ .dK kvs) : ∀ p, od = some p → b ≠ p.1 := fun p hp z => by
  subst hp
  obtain ⟨x, l, u, cs, e1, _⟩ := g
  rw [z, e1] at e
  exact h _ (Option.some.inj e).symm
theorem Sty.fk {l : List V} (s : Sty od D H H') (g : Gd od n H) (nD : ¬ F D) (eD : H D = some (.lst l)) : FK F H H' := by
  refine ⟨fun a vs e => s a _ (fun z => ?_) (notDraw g e fun _ z => nomatch z) e, fun a vs fa e => s a _ (fun z => nD (by rw [← z]; exact fa)) (notDraw g e fun _ z => nomatch z) e⟩
  rw [z, eD] at e
  cases e
theorem Sty.fits {F' : Addr → Prop} {l : List V} {m : Nat} (s : Sty od D H H') (f : Fits K od F B Γ σ H) (g : Gd od n H) (g' : Gd od m H') (eD : H D = some (.lst l)) (eD' : H' D ≠ none) (nD : ¬ F D) (gr : Gr F H F') (dF : ∀ b, F' b → H' b ≠ none)
    (hL : ∀ i a, LstS Γ i → σ[i]? = some (some (.ref a)) → a ≠ D) : Fits K od F' B Γ σ H' := by
  have fk := s.fk g nD eD
  have lk : ∀ a ds, a ≠ D → LK K F H a ds → LK K F' H' a ds := fun a ds hne h => by
    obtain ⟨vs, e, t⟩ := h
    exact ⟨vs, s a _ hne (notDraw g e fun _ z => nomatch z) e, (t.fk fk).mono gr.1⟩
  refine ⟨f.len, fun i sl v hi hv => ?_, f.sep, fun b hb => ?_, dF, f.cel⟩
  · have h := f.at_ i sl v hi hv
    cases sl with
    | no => trivial
    | da d =>
      obtain ⟨x, e, t⟩ := h
      exact ⟨x, e, (t.fk fk).mono gr.1⟩
    | own ds =>
      obtain ⟨a, rfl, l, nf, nb⟩ := h
      exact ⟨a, rfl, lk a ds (hL i a ⟨ds, .inl hi⟩ hv) l, gr.out nf l.ne_none, nb⟩
    | ro ds =>
      obtain ⟨a, rfl, l⟩ := h
      exact ⟨a, rfl, lk a ds (hL i a ⟨ds, .inr hi⟩ hv) l⟩
    | dw => exact h
  · by_cases e : b = D
    · rw [e]
      exact eD'
    · cases hb' : H b with
      | none => exact absurd hb' (f.dom b hb)
      | some o =>
        by_cases hp : ∀ p, od = some p → b ≠ p.1
        · rw [s b o e hp hb']
          intro z
          cases z
        · cases od with
          | none => exact absurd (fun p z => nomatch z) hp
          | some p =>
            have ep : b = p.1 := by
              by_cases z : b = p.1
              · exact z
              · exact absurd (fun q hq => by cases hq; exact z) hp
            obtain ⟨x, l, u, cs, e1, _⟩ := g'
            rw [ep, e1]
            intro z
            cases z
theorem lst_da {i j : Nat} {d : PyData} (h : LstS (Γ.set i (.da d)) j) : LstS Γ j := by
  obtain ⟨ds, h⟩ := h
  by_cases e : i = j
  · subst e
    by_cases hi : i < Γ.length
    · rw [List.getElem?_set_self hi] at h
      rcases h with h | h <;> cases h
    · rw [List.getElem?_eq_none (by rw [List.length_set]; omega)] at h
      rcases h with h | h <;> cases h
  · rw [List.getElem?_set_ne e] at h
    exact ⟨ds, h⟩
theorem lst_no {i j : Nat} (h : LstS (Γ.set i .no) j) : LstS Γ j ∧ i ≠ j := by
  obtain ⟨ds, h⟩ := h
  by_cases e : i = j
  · subst e
    by_cases hi : i < Γ.length
    · rw [List.getElem?_set_self hi] at h
      rcases h with h | h <;> cases h
    · rw [List.getElem?_eq_none (by rw [List.length_set]; omega)] at h
      rcases h with h | h <;> cases h
  · rw [List.getElem?_set_ne e] at h
    exact ⟨⟨ds, h⟩, e⟩
theorem lst_wipe : ∀ {own : List Nat} {j : Nat}, LstS (wipeS Γ own) j → LstS Γ j ∧ j ∉ own
  | [], j, h => ⟨h, fun z => nomatch z⟩
  | v :: vs, j, h => by
    obtain ⟨h1, h2⟩ := lst_no h
    obtain ⟨h3, h4⟩ := lst_wipe h1
    exact ⟨h3, fun z => (List.mem_cons.mp z).elim (fun e => h2 e.symm) h4⟩
theorem wipe_at {j : Nat} : ∀ {own : List Nat}, j ∉ own → (L2.wipe σ own)[j]? = σ[j]?
  | [], _ => rfl
  | v :: vs, h => by
    show ((L2.wipe σ vs).set v none)[j]? = σ[j]?
    rw [List.getElem?_set_ne (fun z => h (by rw [← z]; exact List.mem_cons_self)), wipe_at fun z => h (List.mem_cons_of_mem _ z)]
theorem len20 {k : Nat} (h : k < 20000) : k < sizeLine := len20k (by omega)
theorem w_lc2 {wi wi1 : TI} {g g1 : TG} {tt tt1 : TT} {te : TE} {own vs1 : List Nat} {Q : Rs → Nat → Prop} (h : wI K od wi Γ n fun ds n1 => ∃ I : Nat → List PyData → Nat → Prop, I 0 [] n1 ∧
      (∀ i d acc m, ds[i]? = some d → I i acc m → wTg K od g own d (wipeS Γ own) fun Γ2 => (∀ j, LstS Γ2 j → LstS (wipeS Γ own) j) ∧ wT K od tt Γ2 m fun b m2 => if b = true then
        wJ K od wi1 Γ2 m2 fun ds1 m3 => ∃ I1 : Nat → List PyData → Nat → Prop, I1 0 acc m3 ∧ (∀ j d1 acc1 m4, ds1[j]? = some d1 → I1 j acc1 m4 → acc1.length < 20000 ∧ wTg K od g1 vs1 d1 (wipeS Γ2 vs1) fun Γ3 => wT K od tt1 Γ3 m4 fun b m5 => if b = true then wE K od te Γ3 m5 fun r m6 => ∃ e, r.em = some e ∧ I1 (j + 1) (acc1 ++ [e]) m6 else I1 (j + 1) acc1 m5) ∧
          ∀ acc1 m4, I1 ds1.length acc1 m4 → I (i + 1) acc1 m4
        else I (i + 1) acc m2) ∧
      ∀ acc m, I ds.length acc m → Q (.fr acc) m) : wE K od (tLc2 wi g tt wi1 g1 tt1 te own vs1) Γ n Q := by
  intro F B σ H f gd R k
  refine h F B σ H f gd _ fun J H1 ds n1 F1 hq o1 W D nD => ?_
  obtain ⟨I, h0, step, fin⟩ := hq
  obtain ⟨G, Y, w, hG, hY⟩ := W
  have g1' := o1.g
  have dne : ∀ p, od = some p → D ≠ p.1 ∧ D ≠ p.2 := fun p hp => by
    subst hp
    obtain ⟨x, l, u, cs, e1, e2, _⟩ := g1'
    refine ⟨fun z => ?_, fun z => ?_⟩
    · rw [z, e1] at nD
      cases nD
    · rw [z, e2] at nD
      cases nD
  have gup : ∀ {m : Nat} {H' : Hp} {o : HO}, Gd od m H' → Gd od m (upd H' D o) := fun g => g.updF dne
  have kup : ∀ {H' : Hp} {o : HO}, Kx od H1 H' → Kx od H1 (upd H' D o) := fun k => k.updF nD
  have nF1 : ¬ F1 D := fun z => o1.f.domF D z nD
  have dup : ∀ {Fa : Addr → Prop} {H' : Hp} {o : HO}, (∀ b, Fa b → H' b ≠ none) → ∀ b, Fa b → upd H' D o b ≠ none := fun {Fa H' o} hd b hb => by
    by_cases e : b = D
    · rw [e, upd_same]
      intro z
      cases z
    · rw [upd_ne e]
      exact hd b hb
  refine ⟨fun i k H' => k = ds.length - i ∧ i ≤ ds.length ∧ ∃ acc m F', I i acc m ∧ Gr F1 H1 F' ∧ (∀ b, F' b → H' b ≠ none) ∧ ¬ F' D ∧ Kx od H1 H' ∧ Gd od m H' ∧ LK K F' H' D acc, ⟨ds.length, by simp, Nat.zero_le _, [], n1, F1, h0, Gr.refl _ _, dup o1.f.domF, nF1, kup (Kx.refl _ _), gup g1', [], upd_same, .nil⟩, ?_⟩
  rintro i k0 Ha ⟨rfl, hi, acc, m, F', hI, gr, dF, nD', ka, ga, vs, eD, t⟩
  have hGa := hG Ha (ka.pr g1')
  by_cases lt : i < ds.length
  · refine .inr ⟨w.goes i Ha lt hGa, fun H' => ∃ acc m F', I (i + 1) acc m ∧ Gr F1 H1 F' ∧ (∀ b, F' b → H' b ≠ none) ∧ ¬ F' D ∧ Kx od H1 H' ∧ Gd od m H' ∧ LK K F' H' D acc, fun H' p' => ⟨ds.length - (i + 1), by omega, rfl, lt, p'⟩, fun x Hb y' => ?_⟩
    have y := w.yields i Ha x Hb lt hGa y'
    obtain ⟨s1, dx⟩ := hY i _ Ha x Hb (List.getElem?_eq_getElem lt) (ka.pr g1') y
    have gb := ga.same s1
    have kb := ka.trans (Same.kx s1)
    have dFb : ∀ b, F' b → Hb b ≠ none := fun b hb => (Same.kx (od := od) s1).some gb (dF b hb)
    have fb : Fits K od F' B Γ σ Hb := o1.f.kg kb g1' gb gr dFb
    refine step i _ acc m (List.getElem?_eq_getElem lt) hI F' B x (L2.wipe σ own) Hb (fb.wipe own) (dx.mono gr.1) _ fun σ2 Γ2 hw f2 w2 => ⟨by rw [w2]; exact wipe_wipe own, ?_⟩
    obtain ⟨hL, hw⟩ := hw
    have hL2 : ∀ i a, LstS Γ2 i → σ2[i]? = some (some (.ref a)) → a ≠ D := fun i a hl e z => by
      obtain ⟨h1, h2⟩ := lst_wipe (hL i hl)
      have e2 : σ[i]? = some (some (.ref a)) := by
        have q1 := wipe_at (σ := σ2) h2
        have q2 := wipe_at (σ := L2.wipe σ own) h2
        have q3 := wipe_at (σ := σ) h2
        rw [← q1, w2, q2, q3] at e
        exact e
      exact o1.f.lstAt h1 e2 (by rw [z]; exact nD)
    refine hw F' B σ2 Hb f2 gb _ fun b Hc m2 F2 hb2 o2 => ?_
    have eDb : Hb D ≠ none := (Same.kx (od := od) s1).some gb (by rw [eD]; intro z; cases z)
    have grc : Gr F1 H1 F2 := gr.trans o2.gr kb gb
    have nD2 : ¬ F2 D := o2.gr.out nD' eDb
    have kc : Kx od Ha Hc := (Same.kx s1).trans o2.k
    cases b with
    | false =>
      have hb3 : I (i + 1) acc m2 := hb2
      exact iteF ⟨acc, m2, F2, hb3, grc, o2.f.domF, nD2, ka.trans kc, o2.g, (kc.lk ga ⟨vs, eD, t⟩).mono o2.gr.1⟩
    | true =>
      have hb3 := hb2
      rw [if_pos rfl] at hb3
      refine iteT (hb3 F2 B σ2 Hc o2.f o2.g _ fun J1 Hd ds1 m3 F3 hq1 o3 W1 => ?_)
      obtain ⟨I1, i0, step1, fin1⟩ := hq1
      obtain ⟨G1, Y1, w1, hG1, hY1⟩ := W1
      have kd : Kx od Ha Hd := kc.trans o3.k
      have ec : Hc D ≠ none := kc.some o2.g (by rw [eD]; intro z; cases z)
      have gr3 : Gr F1 H1 F3 := grc.trans o3.gr (ka.trans kc) o2.g
      have nD3 : ¬ F3 D := o3.gr.out nD2 ec
      obtain ⟨vsd, eDd, td⟩ := kd.lk ga ⟨vs, eD, t⟩
      have prd : ∀ {Hx : Hp}, Sty od D Hd Hx → Pr od F3 (fun b => Hc b = none) Hd Hx := fun {Hx} st => ⟨st.fk o3.g nD3 eDd, fun b o hb hn e => st b o (fun z => ec (by rw [← z]; exact hb)) hn e⟩
      refine ⟨fun j k H' => k = ds1.length - j ∧ j ≤ ds1.length ∧ ∃ acc m F', I1 j acc m ∧ Gr F3 Hd F' ∧ (∀ b, F' b → H' b ≠ none) ∧ ¬ F' D ∧ Sty od D Hd H' ∧ Kx od H1 H' ∧ Gd od m H' ∧ LK K F' H' D acc,
        ⟨ds1.length, by simp, Nat.zero_le _, acc, m3, F3, i0, Gr.refl _ _, o3.f.domF, nD3, Sty.refl _, ka.trans kd, o3.g, vsd, eDd, td.mono fun b z => o3.gr.1 b (o2.gr.1 b z)⟩, ?_⟩
      rintro j k1 He ⟨rfl, hj, acc1, m4, F4, hI1, gr4, dF4, nD4, st4, ke, ge, vs4, eD4, t4⟩
      have hG1e := hG1 He (prd st4)
      have gr14 : Gr F1 H1 F4 := gr3.trans gr4 (ka.trans kd) o3.g
      by_cases lt1 : j < ds1.length
      · refine .inr ⟨w1.goes j He lt1 hG1e, fun H' => ∃ acc m F', I1 (j + 1) acc m ∧ Gr F3 Hd F' ∧ (∀ b, F' b → H' b ≠ none) ∧ ¬ F' D ∧ Sty od D Hd H' ∧ Kx od H1 H' ∧ Gd od m H' ∧ LK K F' H' D acc, fun H' p' => ⟨ds1.length - (j + 1), by omega, rfl, lt1, p'⟩, fun x1 Hf y1' => ?_⟩
        have y1 := w1.yields j He x1 Hf lt1 hG1e y1'
        obtain ⟨s2, dx1⟩ := hY1 j _ He x1 Hf (List.getElem?_eq_getElem lt1) (prd st4) y1
        have gf := ge.same s2
        have kf : Kx od He Hf := Same.kx s2
        have dFf : ∀ b, F4 b → Hf b ≠ none := fun b hb => kf.some gf (dF4 b hb)
        have eDf : Hf D ≠ none := kf.some gf (by rw [eD4]; intro z; cases z)
        have ff : Fits K od F4 B Γ2 σ2 Hf := (st4.trans kf.sty).fits o3.f o3.g gf eDd eDf nD3 gr4 dFf hL2
        obtain ⟨hlen, hstep⟩ := step1 j _ acc1 m4 (List.getElem?_eq_getElem lt1) hI1
        refine hstep F4 B x1 (L2.wipe σ2 vs1) Hf (ff.wipe vs1) (dx1.mono gr4.1) _ fun σ3 Γ3 hw3 f3 w3 => ⟨by rw [w3]; exact wipe_wipe vs1, ?_⟩
        refine hw3 F4 B σ3 Hf f3 gf _ fun b Hg m5 F5 hb5 o5 => ?_
        have kg : Kx od He Hg := kf.trans o5.k
        have gr5 : Gr F3 Hd F5 := ⟨fun b z => o5.gr.1 b (gr4.1 b z), fun b z => (o5.gr.2 b z).elim (gr4.2 b) fun e => by
          cases e2 : Hd b with
          | none => exact .inr rfl
          | some o =>
            exfalso
            have hbD : b ≠ D := fun z => eDf (by rw [← z]; exact e)
            by_cases hp : ∀ p, od = some p → b ≠ p.1
            · have q := (st4.trans kf.sty) b o hbD hp e2
              rw [q] at e
              cases e
            · cases od with
              | none => exact hp fun p z => nomatch z
              | some p =>
                have ep : b = p.1 := by
                  by_cases z : b = p.1
                  · exact z
                  · exact absurd (fun q hq => by cases hq; exact z) hp
                obtain ⟨x, l, u, cs, e1, _⟩ := gf
                rw [ep, e1] at e
                cases e⟩
        have nD5 : ¬ F5 D := o5.gr.out nD4 eDf
        cases b with
        | false =>
          have hb6 : I1 (j + 1) acc1 m5 := hb5
          exact iteF ⟨acc1, m5, F5, hb6, gr5, o5.f.domF, nD5, st4.trans kg.sty, ke.trans kg, o5.g, (kg.lk ge ⟨vs4, eD4, t4⟩).mono o5.gr.1⟩
        | true =>
          have hb6 : wE K od te Γ3 m5 fun r m6 => ∃ e, r.em = some e ∧ I1 (j + 1) (acc1 ++ [e]) m6 := hb5
          refine iteT (hb6 F5 B σ3 Hg o5.f o5.g _ fun v Hh r m6 F6 hr o6 a6 => ?_)
          obtain ⟨e, er, hI2⟩ := hr
          have kh : Kx od He Hh := kg.trans o6.k
          have eg : Hg D ≠ none := kg.some o5.g (by rw [eD4]; intro z; cases z)
          have nD6 : ¬ F6 D := o6.gr.out nD5 eg
          obtain ⟨F7, q1, q2, q3, q4, tv⟩ := RsAll.keep (RsAll.cons a6 .nil (fun _ _ k es z => by simp at z)) (show emAll [r] = some [e] by unfold emAll; rw [er]; rfl) o6.f.domF
          have back : ∀ b, Hg b = none → Hd b = none := fun b e => by
            cases e2 : Hd b with
            | none => rfl
            | some o =>
              exfalso
              have hbD : b ≠ D := fun z => eg (by rw [← z]; exact e)
              by_cases hp : ∀ p, od = some p → b ≠ p.1
              · have q := (st4.trans kg.sty) b o hbD hp e2
                rw [q] at e
                cases e
              · cases od with
                | none => exact hp fun p z => nomatch z
                | some p =>
                  have ep : b = p.1 := by
                    by_cases z : b = p.1
                    · exact z
                    · exact absurd (fun q hq => by cases hq; exact z) hp
                  obtain ⟨x, l, u, cs, e1, _⟩ := o5.g
                  rw [ep, e1] at e
                  cases e
          have gr7 : Gr F3 Hd F7 := ⟨fun b z => q1 b (o6.gr.1 b (gr5.1 b z)), fun b z => (q2 b z).elim (fun z => (o6.gr.2 b z).elim (gr5.2 b) fun e => .inr (back b e)) fun e => .inr (back b e)⟩
          have nD7 : ¬ F7 D := fun z => (q2 D z).elim nD6 eg
          obtain ⟨vs', eD', t'⟩ := kh.lk ge ⟨vs4, eD4, t4⟩
          have fk : FK F7 Hh (upd Hh D (.lst (vs' ++ [v]))) := ⟨tk_updL eD', fun a xs fa ea => by
            rw [upd_ne (fun z => nD7 (by rw [← z]; exact fa))]
            exact ea⟩
          refine ⟨vs', eD', ?_, acc1 ++ [e], m6, F7, hI2, gr7, dup q3, nD7, (st4.trans kh.sty).upd, kup (ke.trans kh), gup o6.g, vs' ++ [v], upd_same, ?_⟩
          · rw [t'.len]
            exact len20 hlen
          · have g47 : ∀ b, F4 b → F7 b := fun b z => q1 b (o6.gr.1 b (o5.gr.1 b z))
            exact ((t'.mono g47).fk fk).app (tv.fk fk)
      · have e : j = ds1.length := by omega
        subst e
        exact .inl ⟨w1.stops He hG1e, acc1, m4, F4, fin1 acc1 m4 hI1, gr14, dF4, nD4, ke, ge, vs4, eD4, t4⟩
  · have e : i = ds.length := by omega
    subst e
    have o2 : Go K od F B Γ σ H F' Ha m := ⟨o1.gr.trans gr o1.k g1', o1.k.trans ka, ga, o1.f.kg ka g1' ga gr dF⟩
    exact .inl ⟨w.stops Ha hGa, k _ Ha _ m F' (fin acc m hI) o2 ⟨D, rfl, ⟨vs, eD, t⟩, o1.k.none g1' nD, nD', fun z => o1.f.dom D z nD⟩⟩
/-- a comprehension with two fors that draws nothing and has no tests -/
theorem ev_lc2 {α β : Type} {xs : List α} {enc : α → PyData} {ys : α → List β} {enc1 : β → PyData} {f : α → β → PyData} {Γ2 : α → List Sl} {Γ3 : α → β → List Sl} {wi wi1 : TI} {g g1 : TG} {te : TE} {own vs1 : List Nat} (hi : EvI K od wi Γ (xs.map enc)) (hl : (xs.flatMap ys).length ≤ 20000)
    (hg : ∀ x ∈ xs, ∀ N : List Sl → Prop, N (Γ2 x) → wTg K od g own (enc x) (wipeS Γ own) N) (hL : ∀ x ∈ xs, ∀ j, LstS (Γ2 x) j → LstS (wipeS Γ own) j) (hj : ∀ x ∈ xs, EvJ K od wi1 (Γ2 x) ((ys x).map enc1))
    (hg1 : ∀ x ∈ xs, ∀ y ∈ ys x, ∀ N : List Sl → Prop, N (Γ3 x y) → wTg K od g1 vs1 (enc1 y) (wipeS (Γ2 x) vs1) N) {rr : α → β → Rs} (he : ∀ x ∈ xs, ∀ y ∈ ys x, Ev K od te (Γ3 x y) (rr x y)) (hm : ∀ x ∈ xs, ∀ y ∈ ys x, (rr x y).em = some (f x y)) : Ev K od (tLc2 wi g tYes wi1 g1 tYes te own vs1) Γ (.fr (xs.flatMap fun x => (ys x).map (f x))) := by
  intro n Q q
  refine w_lc2 (hi n _ ⟨fun i acc m => acc = (xs.take i).flatMap (fun x => (ys x).map (f x)) ∧ m = n, ⟨rfl, rfl⟩, fun i d acc m hd h => ?_, fun acc m h => ?_⟩)
  · obtain ⟨x, hx, rfl⟩ := Option.map_eq_some_iff.mp (by rw [List.getElem?_map] at hd; exact hd)
    have mem : x ∈ xs := List.mem_of_getElem? hx
    obtain ⟨rfl, rfl⟩ := h
    have tk : xs.take (i + 1) = xs.take i ++ [x] := by
      rw [List.take_add_one, hx]
      rfl
    refine hg x mem _ ⟨hL x mem, ev_yes _ _ (iteT (hj x mem _ _ ⟨fun j acc1 m4 => acc1 = (xs.take i).flatMap (fun x => (ys x).map (f x)) ++ ((ys x).take j).map (f x) ∧ m4 = m, ⟨by simp, rfl⟩, fun j d1 acc1 m4 hd1 h1 => ?_, fun acc1 m4 h1 => ?_⟩))⟩
    · obtain ⟨y, hy, rfl⟩ := Option.map_eq_some_iff.mp (by rw [List.getElem?_map] at hd1; exact hd1)
      have memy : y ∈ ys x := List.mem_of_getElem? hy
      obtain ⟨rfl, rfl⟩ := h1
      refine ⟨?_, hg1 x mem y memy _ (ev_yes _ _ (iteT ((he x mem y memy).w ⟨f x y, hm x mem y memy, ?_, rfl⟩)))⟩
      · have hj2 : j < (ys x).length := (List.getElem?_eq_some_iff.mp hy).1
        have i2 : i < xs.length := (List.getElem?_eq_some_iff.mp hx).1
        have e1 : xs = xs.take i ++ x :: xs.drop (i + 1) := by
          have := List.take_append_drop i xs
          rw [List.drop_eq_getElem_cons i2] at this
          have ex : xs[i] = x := (List.getElem?_eq_some_iff.mp hx).2
          rw [ex] at this
          exact this.symm
        have e2 : (xs.flatMap ys).length = ((xs.take i).flatMap ys).length + ((ys x).length + ((xs.drop (i + 1)).flatMap ys).length) := by
          have : xs.flatMap ys = (xs.take i).flatMap ys ++ (ys x ++ (xs.drop (i + 1)).flatMap ys) := by
            conv => lhs; rw [e1]
            rw [List.flatMap_append, List.flatMap_cons]
          rw [this, List.length_append, List.length_append]
        have e3 : ((xs.take i).flatMap fun x => (ys x).map (f x)).length = ((xs.take i).flatMap ys).length := by
          generalize xs.take i = zs
          induction zs with
          | nil => rfl
          | cons z r ih => rw [List.flatMap_cons, List.flatMap_cons, List.length_append, List.length_append, List.length_map, ih]
        rw [List.length_append, List.length_map, List.length_take, e3]
        omega
      · rw [List.take_add_one, hy, List.map_append, List.append_assoc]
        rfl
    · obtain ⟨rfl, rfl⟩ := h1
      refine ⟨?_, rfl⟩
      rw [List.length_map, List.take_length, tk, List.flatMap_append, List.flatMap_cons, List.flatMap_nil, List.append_nil]
  · obtain ⟨rfl, rfl⟩ := h
    rw [List.length_map, List.take_length]
    exact q
end
end Pb

namespace Pb
open PySem PySem.Spec PyProof.Rows L2 TL
/-! ### t[::-1] of a tuple -/
section
variable {prog : Program} {w : World} {A : Around} {E : Value → Shared → Prop} {s : Shared}
theorem adj_rev (n : Nat) : Builtin.Slice.sliceAdjust none none (-1) (n : Int) = ((n : Int) - 1, -1) := by
  unfold Builtin.Slice.sliceAdjust
  simp
theorem plc_rev (n : Nat) : Builtin.Slice.slicePlaces ((n : Int) - 1) (-1) (-1) = n := by
  unfold Builtin.Slice.slicePlaces
  simp
  omega
theorem app_rev {sl : Addr} {vl vu vs : Value} {n : Nat} {Q : Int × Int × Nat → Shared → Prop} (hs : s.heap.IsSliceOf sl vl vu vs) (pl : IsPart vl none) (pu : IsPart vu none) (ps : IsPart vs (some (-1)))
    (q : Q ((n : Int) - 1, -1, n) s) : wpAny (model prog w) A (Builtin.Slice.sliceApplied (.ref sl) (pure (n : Int))) Q E s := by
  obtain ⟨o, ho, hc, hd⟩ := id hs
  unfold Builtin.Slice.sliceApplied Builtin.Slice.sliceFields
  refine wpAny_bind (wpAny_bind (wpAny_field ho hd (x := vl) rfl (wpAny_bind (wpAny_field ho hd (x := vu) rfl (wpAny_bind (wpAny_field ho hd (x := vs) rfl (wpAny_pure ?_)))))))
  refine wpAny_bind (HT.slicePart_ ps ?_)
  show wpAny _ _ (if ((-1 : Int) == 0) = true then _ else _) _ _ s
  rw [if_neg (by decide)]
  refine wpAny_bind (HT.slicePart_ pl (wpAny_bind (HT.slicePart_ pu (wpAny_bind (wpAny_pure ?_)))))
  show wpAny _ _ (match Builtin.Slice.sliceAdjust none none (-1) (n : Int) with | (lo, hi) => pure (lo, (-1 : Int), Builtin.Slice.slicePlaces lo hi (-1))) _ _ s
  rw [adj_rev]
  show wpAny _ _ (pure ((n : Int) - 1, (-1 : Int), Builtin.Slice.slicePlaces ((n : Int) - 1) (-1) (-1))) _ _ s
  rw [plc_rev]
  exact wpAny_pure q
theorem pick_rev (xs : Array Value) : ((List.range xs.size).filterMap fun (k : Nat) => xs[(((xs.size : Nat) : Int) - 1 + (k : Int) * (-1)).toNat]?).toArray = xs.toList.reverse.toArray := by
  congr 1
  have e : (List.range xs.size).filterMap (fun (k : Nat) => xs[(((xs.size : Nat) : Int) - 1 + (k : Int) * (-1)).toNat]?) = (List.range xs.size).map (fun k => xs.toList.getD (xs.size - 1 - k) .none) := by
    have key : ∀ (l : List Nat), (∀ k ∈ l, k < xs.size) → l.filterMap (fun (k : Nat) => xs[(((xs.size : Nat) : Int) - 1 + (k : Int) * (-1)).toNat]?) = l.map (fun k => xs.toList.getD (xs.size - 1 - k) .none) := by
      intro l
      induction l with
      | nil => intro _; rfl
      | cons k r ih =>
        intro hl
        have hk2 := hl k List.mem_cons_self
        have e1 : (((xs.size : Nat) : Int) - 1 + (k : Int) * (-1)).toNat = xs.size - 1 - k := by omega
        have hl2 : xs.size - 1 - k < xs.toList.length := by rw [Array.length_toList]; omega
        rw [List.filterMap_cons, List.map_cons, ih fun x hx => hl x (List.mem_cons_of_mem _ hx), e1]
        rw [← Array.getElem?_toList, List.getElem?_eq_getElem hl2, List.getD_eq_getElem?_getD, List.getElem?_eq_getElem hl2]
        rfl
    exact key _ fun k hk => List.mem_range.mp hk
  rw [e]
  apply List.ext_getElem
  · rw [List.length_map, List.length_range, List.length_reverse, Array.length_toList]
  · intro k h1 h2
    rw [List.length_map, List.length_range] at h1
    have hl : xs.size - 1 - k < xs.toList.length := by rw [Array.length_toList]; omega
    rw [List.getElem_map, List.getElem_range, List.getElem_reverse, List.getD_eq_getElem?_getD, List.getElem?_eq_getElem hl]
    simp
theorem get_revT {t sl : Addr} {its : Array Value} {vl vu vs : Value} {Q : Value → Shared → Prop} (ht : PyProof.Rows.IsTup s.heap t its) (hs : s.heap.IsSliceOf sl vl vu vs) (pl : IsPart vl none) (pu : IsPart vu none) (ps : IsPart vs (some (-1)))
    (q : Q (.ref s.heap.objs.size) { s with heap := s.heap.push { cls := .type "tuple", data := .seq its.toList.reverse.toArray } }) (hz : its.size ≤ sizeLine) : wpAny (model prog w) A (getItem (.ref t) (.ref sl)) Q E s := by
  have sz : sizeOk (.seq its.toList.reverse.toArray) := by
    show its.toList.reverse.toArray.size ≤ sizeLine
    rw [List.size_toArray, List.length_reverse, Array.length_toList]
    exact hz
  obtain ⟨o, ho, hc, hd⟩ := id hs
  have ty : s.TypeIs (.ref sl) "slice" := ⟨o, ho, hc⟩
  unfold getItem
  try with_reducible refine wpAny_holding ?_
  first | (refine wpAny_bind (wpAny_pure ?_)) | skip
  refine wpAny_bind (wpAny_sequenceKey ht.typeIs (by decide) (wpAny_bind (wpAny_callSpecial?_slot (name := Str.ofString "__getitem__") ht.typeIs PyProof.Rows.slot_tuple_getitem (wpAny_call_entry PyProof.Rows.slot_tuple_getitem ht.typeIs PyProof.Rows.entry_tuple_getitem ?_ (PyProof.Rows.args_tuple_getitem _ _)))))
  show wpAny _ _ (Builtin.Tuple.tupleItemsOf (.ref t) >>= _) _ _ s
  refine wpAny_bind (PyProof.Rows.tupleItemsOf_ ht (wpAny_bind (wpAny_typeOf ty ?_)))
  rw [if_pos (by decide)]
  refine wpAny_bind (app_rev hs pl pu ps ?_)
  show wpAny _ _ (if (((its.size : Nat) : Int) - 1 == 0 && (-1 : Int) == 1 && its.size == its.size) = true then _ else _) _ _ s
  rw [if_neg (by simp), pick_rev]
  first
    | exact wpAny_bind (m := Builtin.Tuple.tupleExact _) (wpAny_newObj_type (wpAny_pure ⟨_, rfl, wpAny_pure q⟩) sz)
    | exact wpAny_bind (m := Builtin.Tuple.tupleExact _) (wpAny_newObj_type (wpAny_bind (wpAny_pure (wpAny_pure ⟨_, rfl, wpAny_pure q⟩))) sz)
    | exact wpAny_bind (wpAny_bind (m := Builtin.Tuple.tupleExact _) (wpAny_newObj_type (wpAny_pure (wpAny_pure ⟨_, rfl, wpAny_pure q⟩)) sz))
    | exact wpAny_bind (wpAny_bind (m := Builtin.Tuple.tupleExact _) (wpAny_newObj_type (wpAny_pure ⟨_, rfl, wpAny_pure q⟩) sz))
end
section
variable {X : Cx}
def tRevT (K : PySem.W.Frag) (te : TE) : TE := fun σ H Q => te σ H fun x H1 => ∃ a xs, x = .ref a ∧ SqT K H1 a xs ∧ ∀ p, H1 p = none → Q (.ref p) (upd H1 p (.tup xs.reverse))
theorem pe_revT {e : Expr} {te : TE} {k : Nat} {p1 p2 p3 pos : Pos} (he : PE X e te) : PE X (.Subscript e (.Slice none none (some (.UnaryOp .USub (.Constant (.int 1) k p1) p2)) p3) pos) (tRevT X.K te) := by
  refine ⟨fun pins s σ H Q I h => Subscript_ (thn (he.run pins s σ H _ I h) fun v s1 ⟨x, H1, I1, r1, q1⟩ => ?_)⟩
  obtain ⟨a, xs, ex, hx, q⟩ := q1
  subst ex
  cases r1
  have st : PO X (some (.UnaryOp .USub (.Constant (.int 1) k p1) p2)) (tPart (tUn (rU fun i => .int (-i)) (tC (.int 1)))) := po_some (pe_un un_neg pe_int)
  refine wpAny_Slice (thn (po_none.run pins s1 σ H1 (fun o H' => o = none ∧ H' = H1) I1 ⟨rfl, rfl⟩) fun vl s2 ⟨l, H2, I2, pl, el, c2⟩ => ?_)
  subst el c2
  refine thn (po_none.run pins s2 σ H2 (fun o H' => o = none ∧ H' = H2) I2 ⟨rfl, rfl⟩) fun vu s3 ⟨u, H3, I3, pu, eu, c3⟩ => ?_
  subst eu c3
  refine thn (st.run pins s3 σ H3 (fun o H' => o = some (-1) ∧ H' = H3) I3 ⟨1, rfl, -1, rfl, rfl, rfl⟩) fun vs s4 ⟨o, H4, I4, ps, eo, c4⟩ => ?_
  subst eo c4
  have I5 : Inv X pins σ H4 { s4 with heap := s4.heap.push { cls := .type "slice", data := .fields #[vl, vu, vs] } } := I4.kept (t' := s4.toks) fun b ob z => Heap.get?_push_of_some _ z
  obtain ⟨its, r, ht, hz⟩ := I5.tuple hx
  have ln := r.length
  show wpAny (model X.prog X.w) X.A (subscriptTail e (.Slice none none (some (.UnaryOp .USub (.Constant (.int 1) k p1) p2)) p3) (.ref a) (.ref s4.heap.objs.size)) (EP X pins σ Q) X.xe _
  refine tail_any (ops := [.ref a, .ref s4.heap.objs.size]) ht.typeIs PyProof.Rows.slot_tuple_getitem.lookup ?_ (by with_unfolding_all rfl)
  refine get_revT ht (Heap.IsSliceOf.new _ vl vu vs) pl pu ps ?_ (by rw [List.size_toArray]; omega)
  refine ⟨.ref _, _, I5.laid (t' := s4.toks) (o := .tup xs.reverse) (fun b ob z => Heap.get?_push_of_some _ z) (Nat.le_refl _) ?_, rfl, q _ (I5.hok.fresh (Nat.le_refl _))⟩
  exact ⟨by rw [List.length_reverse]; exact hz, _, r.reverse, PyProof.Rows.IsTup.new _ _⟩
end
section
variable {K : PySem.W.Frag} {od : Md} {Γ : List Sl}
theorem ev_revT {t : TE} {ds : List PyData} (h : Ev K od t Γ (.da (.tuple ds))) : Ev K od (tRevT K t) Γ (.da (.tuple ds.reverse)) := by
  intro n Q q F B σ H f g R k
  refine h n (fun r m => r = .da (.tuple ds) ∧ m = n) ⟨rfl, rfl⟩ F B σ H f g _ fun v H1 x m F1 e o1 a1 => ?_
  obtain ⟨rfl, rfl⟩ := e
  obtain ⟨a, vs, rfl, e, t⟩ := Dk.tup' a1
  refine ⟨a, vs, rfl, e.sq, fun l nl => ?_⟩
  obtain ⟨s, e'⟩ := nxo (o := .tup vs.reverse) nl
  exact k _ _ _ m F1 q (o1.same s) (.tup (.inl e') (t.rev.fk (Same.fk s)))
end
end Pb

namespace Pb
open PySem PySem.Spec PyProof.Rows L2 TL
/-! ### more rules: kinds, chains, truths, signs in texts, abs, ranges with a step -/
def kndD : PyData → String
  | .none => "NoneType"
  | .bool _ => "bool"
  | .int _ => "int"
  | .str _ => "str"
  | .tuple _ => "tuple"
  | .list _ => "list"
  | _ => "?"
section
variable {K : PySem.W.Frag} {od : Md} {F : Addr → Prop} {Γ : List Sl} {n : Nat}
theorem Dk.tyx {H : Hp} {v : V} {d : PyData} (h : Dk K F H v d) : TyX K H v (.type (kndD d)) := by
  cases h with
  | non => exact (Kd.non (H := H)).ty
  | bl b => exact (Kd.bl (H := H) b).ty
  | int i => exact (Kd.int (H := H) i).ty
  | str x => exact (Kd.str (H := H) x).ty
  | tup h t =>
    rcases h with e | ⟨o, its, m, e, c, _⟩
    · exact (Kd.tup e).ty
    · exact .kTuple e c
  | lst h _ _ => exact (Kd.lst h).ty
abbrev tyT (T : String) : V := .ty T
theorem ev_isi {t : TE} {d : PyData} {T : String} {b : Bool} (h : Ev K od t Γ (.da d)) (hb : PySem.W.kitOne K (.type (kndD d)) (.type T) = some b) : Ev K od (tCB (rIsi K) (tCons t (tCons (tC (.ty T)) tNil))) Γ (.da (.bool b)) := by
  intro n Q q F B σ H f g R k
  refine h n (fun r m => r = .da d ∧ m = n) ⟨rfl, rfl⟩ F B σ H f g _ fun v H1 x m F1 e o1 a1 => ?_
  obtain ⟨rfl, rfl⟩ := e
  exact ⟨v, .ty T, _, _, b, rfl, .ty T, Dk.tyx a1, hb, k _ H1 _ m F1 q o1 (.bl b)⟩
theorem w_chain {r r' : R2} {ta tb tc : TE} {x y z : PyData} {k k' : Bool} (ha : Ev K od ta Γ (.da x)) (hb : Ev K od tb Γ (.da y)) (d1 : R2D K od r (.da x) (.da y) (.da (.bool k))) (hc : k = true → Ev K od tc Γ (.da z)) (d2 : k = true → R2D K od r' (.da y) (.da z) (.da (.bool k'))) : Ev K od (tChain r r' ta tb tc) Γ (.da (.bool (k && k'))) := by
  intro n Q q F B σ H f g R kk
  refine ha n (fun r m => r = .da x ∧ m = n) ⟨rfl, rfl⟩ F B σ H f g _ fun v H1 x' m F1 e o1 a1 => ?_
  obtain ⟨rfl, rfl⟩ := e
  refine hb m (fun r m' => r = .da y ∧ m' = m) ⟨rfl, rfl⟩ F1 B σ H1 o1.f o1.g _ fun u H2 y' m' F2 e o2 a2 => ?_
  obtain ⟨rfl, rfl⟩ := e
  have o12 := o1.trans o2
  refine d1 F2 B H H2 m' v u o2.g o2.f.dm (a1.step o2.gr o2.k o1.g) (a2.back o1.k o1.g) _ fun w H3 s3 a3 => ⟨k, Dk.bl' a3, ?_⟩
  have o3 := o12.same s3
  cases k with
  | false =>
    rw [if_neg Bool.false_ne_true]
    exact kk _ H3 _ m' F2 q o3 (.bl _)
  | true =>
    rw [if_pos rfl]
    refine hc rfl m' (fun r m'' => r = .da z ∧ m'' = m') ⟨rfl, rfl⟩ F2 B σ H3 o3.f o3.g _ fun w' H4 z' m'' F4 e o4 a4 => ?_
    obtain ⟨rfl, rfl⟩ := e
    have a2' := ((a2.back o1.k o1.g).step (Gr.refl _ _) (Same.kx s3) o2.g).step o4.gr o4.k o3.g
    exact d2 rfl F4 B H H4 m'' u w' o4.g o4.f.dm a2' (a4.back o3.k o3.g) R fun w2 H5 s5 a5 => kk w2 H5 _ m'' F4 q ((o3.trans o4).same s5) (a5.back (o3.trans o4).k o4.g)
theorem ev_chain {r r' : R2} {ta tb tc : TE} {x y z : PyData} {k k' : Bool} (ha : Ev K od ta Γ (.da x)) (hb : Ev K od tb Γ (.da y)) (d1 : R2D K od r (.da x) (.da y) (.da (.bool k))) (hc : Ev K od tc Γ (.da z)) (d2 : R2D K od r' (.da y) (.da z) (.da (.bool k'))) : Ev K od (tChain r r' ta tb tc) Γ (.da (.bool (k && k'))) := w_chain ha hb d1 (fun _ => hc) (fun _ => d2)
/-- a list's or a tuple's truth -/
theorem ev_tru {t : TE} {x : Rs} {ds : List PyData} (h : Ev K od t Γ x) (hx : x.lst? = some ds) : EvT K od (fun σ H Q => t σ H fun x H' => ∃ k, TruV K x H' k ∧ Q k H') Γ (!ds.isEmpty) := by
  intro n Q q F B σ H f g R k
  refine h n (fun r m => r = x ∧ m = n) ⟨rfl, rfl⟩ F B σ H f g _ fun v H1 x' m F1 e o1 a1 => ?_
  obtain ⟨rfl, rfl⟩ := e
  obtain ⟨a, rfl, vs, e, t1⟩ := a1.ls hx
  refine ⟨!ds.isEmpty, .inl ⟨vs, .of e, ?_⟩, k _ H1 m F1 q o1⟩
  cases t1 <;> rfl
abbrev rAbs : List V → Hp → VK → Prop := fun xs H Q => ∃ i, xs = [.int i] ∧ Q (.int (if i < 0 then -i else i)) H
theorem d_abs {i : Int} : CBD K od rAbs [.da (.int i)] (.da (.int (if i < 0 then -i else i))) := fun F B Ha H n vs g dm a R k => by
  obtain ⟨u, rfl, a2⟩ := a.one
  rw [Dk.int' a2]
  exact ⟨i, rfl, k _ H (Same.refl _) (.int _)⟩
def rInS : R2 := fun x y H Q => ∃ (c : Nat) (z : Str), x = .str ⟨#[c]⟩ ∧ y = .str z ∧ Q (.bl (decide (c ∈ z.cps.toList))) H
theorem d_inG {c : Nat} {z : Str} : R2D K od rInS (.da (.str ⟨#[c]⟩)) (.da (.str z)) (.da (.bool (decide (c ∈ z.cps.toList)))) := fun F B Ha H n v u g dm a b R k => ⟨c, z, Dk.str' a, Dk.str' b, k _ H (Same.refl _) (.bl _)⟩
abbrev rLenV (K : PySem.W.Frag) : List V → Hp → VK → Prop := fun xs H Q => ∃ (x : V) (n : Nat), xs = [x] ∧ LenV K x H n ∧ Q (.int n) H
theorem d_lenS {x : Str} (hx : x.length ≤ 20000) : CBD K od (rLenV K) [.da (.str x)] (.da (.int (x.length : Nat))) := fun F B Ha H n vs g dm a R k => by
  obtain ⟨u, rfl, a2⟩ := a.one
  rw [Dk.str' a2]
  exact ⟨.str x, x.length, rfl, ⟨by have : sizeLine = 16777216 := sizeLine_eq; omega, rfl⟩, k _ H (Same.refl _) (.int _)⟩
theorem rs_up (a b : Int) : Builtin.Range.rangeSize a b 1 = ((b - a).toNat : Int) := by
  unfold Builtin.Range.rangeSize
  rw [if_pos (show (1 : Int) > 0 by decide), Int.ediv_one]
  split <;> omega
theorem RgC.pos {i j : Int} (ha : -(2 ^ 62) ≤ i) (ha' : i < 2 ^ 62) (hb : -(2 ^ 62) ≤ j) (hb' : j < 2 ^ 62) : RgC i j 1 (j - i).toNat := by
  refine ⟨by decide, by decide, ?_, rs_up i j⟩
  unfold Builtin.Range.small
  rw [rs_up]
  simp only [Builtin.Range.rangeFitsLong, Bool.and_eq_true, Bool.or_eq_true, decide_eq_true_eq, beq_iff_eq, show ((1 : Int) > 0) by decide, if_true]
  omega
theorem i_rngP {t : TA} {i j : Int} (h : EvA K od t Γ [.da (.int i), .da (.int j), .da (.int 1)]) (hj : -(2 ^ 62) ≤ i ∧ i < 2 ^ 62 ∧ -(2 ^ 62) ≤ j ∧ j < 2 ^ 62) : EvI K od (iRng3 t) Γ (rngC i 1 (j - i).toNat) := by
  intro n Q q F B σ H f g R k
  refine h n (fun r m => r = [.da (.int i), .da (.int j), .da (.int 1)] ∧ m = n) ⟨rfl, rfl⟩ F B σ H f g _ fun v H1 x m F1 e o1 a1 => ?_
  obtain ⟨rfl, rfl⟩ := e
  cases a1 with
  | cons a2 a1 _ =>
    obtain ⟨u, w, rfl, a3, a4⟩ := a1.two
    rw [Dk.int' a2, Dk.int' a3, Dk.int' a4]
    exact ⟨i, j, 1, _, rfl, RgC.pos hj.1 hj.2.1 hj.2.2.1 hj.2.2.2, k _ H1 _ m F1 q o1 walkD_rngC⟩
theorem kit_self (T : String) : PySem.W.kitOne K (.type T) (.type T) = some true := by
  unfold PySem.W.kitOne
  rw [if_pos (by simp)]
theorem s_asg3 {P : Po} {own : List Nat} {t : TE} {g1 g2 g3 : TG} (h : wE K od t Γ n fun r m => ∃ d, r = .da d ∧ wTg K od g1 own d Γ fun Γ1 => wTg K od g2 own d Γ1 fun Γ2 => wTg K od g3 own d Γ2 fun Γ3 => P.nx Γ3 m) : wS K od (tAsg3 t g1 g2 g3) Γ n P := fun F B σ H f g D e =>
  h F B σ H f g _ fun v H' r m F' hr o a => by
    obtain ⟨d, rfl, hg⟩ := hr
    exact hg F' B v σ H' o.f a _ fun σ1 Γ1 h1 f1 _ => h1 F' B v σ1 H' f1 a _ fun σ2 Γ2 h2 f2 _ => h2 F' B v σ2 H' f2 a _ fun σ3 Γ3 h3 f3 _ => e.nx F' _ _ _ _ (o.gb f) h3 f3 o.g (o.k.pr g)
end
/-- a statement that is never come to -/
def tNo : TS := fun _ _ _ => False
theorem ps_no {X : Cx} {st : Stmt} : PS X st tNo := ⟨fun _ _ _ _ _ _ h => h.elim⟩
end Pb

namespace Pb
open PySem PySem.Spec PyProof.Rows L2 TL
/-! ### legs turned about and shortened: the reckoning -/
def turnL : Lg → Lg
  | .ride => .ride
  | .leg n i j => .leg n j i
def turnedL (ls : List Lg) : List Lg := ls.reverse.map turnL
def isOne : Lg → Lg → Bool
  | .leg a i j, .leg b k l => decide (a = b) && decide (j = k) && (decide (i < j) == decide (k < l))
  | _, _ => false
def mergeL : Lg → Lg → Lg
  | .leg _ i _, .leg b _ l => .leg b i l
  | x, _ => x
def stR (acc : List Lg) (l : Lg) : List Lg := match acc with
  | [] => [l]
  | t :: r => if isOne t l = true then mergeL t l :: r else l :: t :: r
def shortR (ls : List Lg) : List Lg := ls.foldl stR []
def shortL (ls : List Lg) : List Lg := (shortR ls).reverse
def upU (n : Str) (i : Int) (k : Nat) : List Lg := (List.range k).map fun (m : Nat) => .leg n (i + (m : Nat)) (i + (m : Nat) + 1)
def dnU (n : Str) (i : Int) (k : Nat) : List Lg := (List.range k).map fun (m : Nat) => .leg n (i - (m : Nat)) (i - (m : Nat) - 1)
def units : Lg → List Lg
  | .ride => [.ride]
  | .leg n i j => if i < j then upU n i (j - i).toNat else dnU n i (i - j).toNat
def Vl : Lg → Prop
  | .ride => True
  | .leg _ i j => i ≠ j
/-- no two neighbours could be one -/
def NA : List Lg → Prop
  | [] => True
  | a :: r => (∀ b, r.head? = some b → isOne a b = false) ∧ NA r
theorem range_add (a b : Nat) : List.range (a + b) = List.range a ++ (List.range b).map fun m => a + m := List.range_add
theorem upU_add (n : Str) (i : Int) (a b : Nat) : upU n i (a + b) = upU n i a ++ upU n (i + (a : Nat)) b := by
  unfold upU
  rw [range_add, List.map_append, List.map_map]
  congr 1
  apply List.map_congr_left
  intro m _
  show Lg.leg n (i + ((a + m : Nat) : Int)) (i + ((a + m : Nat) : Int) + 1) = _
  have e : i + ((a + m : Nat) : Int) = i + (a : Nat) + (m : Nat) := by omega
  rw [e]
theorem dnU_add (n : Str) (i : Int) (a b : Nat) : dnU n i (a + b) = dnU n i a ++ dnU n (i - (a : Nat)) b := by
  unfold dnU
  rw [range_add, List.map_append, List.map_map]
  congr 1
  apply List.map_congr_left
  intro m _
  show Lg.leg n (i - ((a + m : Nat) : Int)) (i - ((a + m : Nat) : Int) - 1) = _
  have e : i - ((a + m : Nat) : Int) = i - (a : Nat) - (m : Nat) := by omega
  rw [e]
theorem isOne_leg {x y : Lg} (h : isOne x y = true) : ∃ n i j k, x = .leg n i j ∧ y = .leg n j k ∧ ((i < j ∧ j < k) ∨ (j ≤ i ∧ k ≤ j)) := by
  cases x with
  | ride => cases h
  | leg a i j =>
    cases y with
    | ride => cases h
    | leg b k l =>
      unfold isOne at h
      rw [Bool.and_eq_true, Bool.and_eq_true, decide_eq_true_eq, decide_eq_true_eq, beq_iff_eq] at h
      obtain ⟨⟨rfl, rfl⟩, e⟩ := h
      refine ⟨a, i, j, l, rfl, rfl, ?_⟩
      by_cases c : i < j
      · rw [decide_eq_true c] at e
        exact .inl ⟨c, of_decide_eq_true e.symm⟩
      · rw [decide_eq_false c] at e
        have c2 : ¬ j < l := of_decide_eq_false e.symm
        exact .inr ⟨by omega, by omega⟩
theorem units_merge {x y : Lg} (h : isOne x y = true) : units (mergeL x y) = units x ++ units y := by
  obtain ⟨n, i, j, k, rfl, rfl, c | c⟩ := isOne_leg h
  · show (if i < k then _ else _) = (if i < j then _ else _) ++ (if j < k then _ else _)
    rw [if_pos (by omega), if_pos c.1, if_pos c.2]
    have e : (k - i).toNat = (j - i).toNat + (k - j).toNat := by omega
    have e2 : i + ((j - i).toNat : Int) = j := by omega
    rw [e, upU_add, e2]
  · show (if i < k then _ else _) = (if i < j then _ else _) ++ (if j < k then _ else _)
    rw [if_neg (by omega), if_neg (by omega), if_neg (by omega)]
    have e : (i - k).toNat = (i - j).toNat + (j - k).toNat := by omega
    have e2 : i - ((i - j).toNat : Int) = j := by omega
    rw [e, dnU_add, e2]
theorem isOne_mergeL {u x y : Lg} (h : isOne x y = true) : isOne u (mergeL x y) = isOne u x := by
  obtain ⟨n, i, j, k, rfl, rfl, c⟩ := isOne_leg h
  cases u with
  | ride => rfl
  | leg a p q =>
    show (decide (a = n) && decide (q = i) && (decide (p < q) == decide (i < k))) = (decide (a = n) && decide (q = i) && (decide (p < q) == decide (i < j)))
    have e : decide (i < k) = decide (i < j) := by
      rcases c with c | c
      · rw [decide_eq_true (by omega : i < k), decide_eq_true c.1]
      · rw [decide_eq_false (by omega : ¬ i < k), decide_eq_false (by omega : ¬ i < j)]
    rw [e]
theorem merge_vl {x y : Lg} (h : isOne x y = true) (hx : Vl x) (hy : Vl y) : Vl (mergeL x y) := by
  obtain ⟨n, i, j, k, rfl, rfl, c⟩ := isOne_leg h
  show i ≠ k
  have h1 : i ≠ j := hx
  have h2 : j ≠ k := hy
  omega
/-- the accumulator from behind has no neighbours that could be one -/
def NR : List Lg → Prop
  | [] => True
  | a :: r => (∀ b, r.head? = some b → isOne b a = false) ∧ NR r
theorem stR_nr {acc : List Lg} {l : Lg} (h : NR acc) : NR (stR acc l) := by
  cases acc with
  | nil => exact ⟨(fun b z => nomatch z), trivial⟩
  | cons t r =>
    unfold stR
    dsimp only
    split
    · next c => exact ⟨fun b hb => by rw [isOne_mergeL c]; exact h.1 b hb, h.2⟩
    · next c => exact ⟨fun b hb => by cases hb; exact Bool.eq_false_iff.mpr c, h⟩
theorem fold_nr : ∀ (ls acc : List Lg), NR acc → NR (ls.foldl stR acc)
  | [], _, h => h
  | _ :: r, _, h => fold_nr r _ (stR_nr h)
theorem na_snoc : ∀ {s : List Lg} {a : Lg}, NA s → (∀ b, s.getLast? = some b → isOne b a = false) → NA (s ++ [a])
  | [], a, _, _ => ⟨(fun b z => nomatch z), trivial⟩
  | [x], a, _, h2 => ⟨fun b hb => by cases hb; exact h2 x rfl, (fun b z => nomatch z), trivial⟩
  | x :: y :: r, a, h1, h2 => ⟨fun b hb => h1.1 b hb, na_snoc (s := y :: r) h1.2 fun b hb => h2 b (by rw [List.getLast?_cons_cons]; exact hb)⟩
theorem na_rev : ∀ {s : List Lg}, NR s → NA s.reverse
  | [], _ => trivial
  | a :: r, h => by
    rw [List.reverse_cons]
    exact na_snoc (na_rev h.2) fun b hb => h.1 b (by rw [List.getLast?_reverse] at hb; exact hb)
theorem short_na (ls : List Lg) : NA (shortL ls) := na_rev (fold_nr ls [] trivial)
theorem stR_units (acc : List Lg) (l : Lg) : (stR acc l).reverse.flatMap units = acc.reverse.flatMap units ++ units l := by
  cases acc with
  | nil => simp [stR]
  | cons t r =>
    unfold stR
    dsimp only
    split
    · next c => simp [units_merge c]
    · simp
theorem fold_units : ∀ (ls acc : List Lg), (ls.foldl stR acc).reverse.flatMap units = acc.reverse.flatMap units ++ ls.flatMap units
  | [], acc => by simp
  | l :: r, acc => by
    rw [List.foldl_cons, fold_units r, stR_units, List.flatMap_cons, List.append_assoc]
theorem short_units (ls : List Lg) : (shortL ls).flatMap units = ls.flatMap units := by
  unfold shortL shortR
  rw [fold_units]
  rfl
theorem stR_vl {acc : List Lg} {l : Lg} (h : ∀ x ∈ acc, Vl x) (hl : Vl l) : ∀ x ∈ stR acc l, Vl x := by
  cases acc with
  | nil =>
    intro x hx
    rw [List.mem_singleton.mp hx]
    exact hl
  | cons t r =>
    unfold stR
    dsimp only
    split
    · next c =>
      intro x hx
      rcases List.mem_cons.mp hx with rfl | z
      · exact merge_vl c (h t List.mem_cons_self) hl
      · exact h x (List.mem_cons_of_mem _ z)
    · intro x hx
      rcases List.mem_cons.mp hx with rfl | z
      · exact hl
      · exact h x z
theorem fold_vl : ∀ (ls acc : List Lg), (∀ x ∈ ls, Vl x) → (∀ x ∈ acc, Vl x) → ∀ x ∈ ls.foldl stR acc, Vl x
  | [], _, _, h => h
  | l :: r, _, hl, h => fold_vl r _ (fun x hx => hl x (List.mem_cons_of_mem _ hx)) (stR_vl h (hl l List.mem_cons_self))
theorem short_vl {ls : List Lg} (h : ∀ x ∈ ls, Vl x) : ∀ x ∈ shortL ls, Vl x := fun x hx => fold_vl ls [] h (fun _ z => nomatch z) x (List.mem_reverse.mp hx)
theorem fold_up {n : Str} {i : Int} {acc : List Lg} (h : ∀ t, acc.head? = some t → isOne t (.leg n i (i + 1)) = false) : ∀ m : Nat, (upU n i (m + 1)).foldl stR acc = .leg n i (i + (m + 1 : Nat)) :: acc
  | 0 => by
    show stR acc (.leg n (i + ((0 : Nat) : Int)) (i + ((0 : Nat) : Int) + 1)) = _
    have e : i + ((0 : Nat) : Int) = i := by omega
    rw [e]
    cases acc with
    | nil => rfl
    | cons t r =>
      unfold stR
      dsimp only
      rw [if_neg (by rw [h t rfl]; exact Bool.false_ne_true)]
      rfl
  | m + 1 => by
    rw [upU_add, List.foldl_append, fold_up h m]
    show stR (.leg n i (i + ((m + 1 : Nat) : Int)) :: acc) (.leg n (i + ((m + 1 : Nat) : Int) + ((0 : Nat) : Int)) (i + ((m + 1 : Nat) : Int) + ((0 : Nat) : Int) + 1)) = _
    have e : i + ((m + 1 : Nat) : Int) + ((0 : Nat) : Int) = i + ((m + 1 : Nat) : Int) := by omega
    have e2 : i + ((m + 1 : Nat) : Int) + 1 = i + ((m + 1 + 1 : Nat) : Int) := by omega
    rw [e, e2]
    unfold stR
    dsimp only
    have c : isOne (.leg n i (i + ((m + 1 : Nat) : Int))) (.leg n (i + ((m + 1 : Nat) : Int)) (i + ((m + 1 + 1 : Nat) : Int))) = true := by
      show (decide (n = n) && decide (i + ((m + 1 : Nat) : Int) = i + ((m + 1 : Nat) : Int)) && (decide (i < i + ((m + 1 : Nat) : Int)) == decide (i + ((m + 1 : Nat) : Int) < i + ((m + 1 + 1 : Nat) : Int)))) = true
      rw [decide_eq_true rfl, decide_eq_true rfl, decide_eq_true (by omega : i < i + ((m + 1 : Nat) : Int)), decide_eq_true (by omega : i + ((m + 1 : Nat) : Int) < i + ((m + 1 + 1 : Nat) : Int))]
      rfl
    rw [if_pos c]
    rfl
theorem fold_dn {n : Str} {i : Int} {acc : List Lg} (h : ∀ t, acc.head? = some t → isOne t (.leg n i (i - 1)) = false) : ∀ m : Nat, (dnU n i (m + 1)).foldl stR acc = .leg n i (i - (m + 1 : Nat)) :: acc
  | 0 => by
    show stR acc (.leg n (i - ((0 : Nat) : Int)) (i - ((0 : Nat) : Int) - 1)) = _
    have e : i - ((0 : Nat) : Int) = i := by omega
    rw [e]
    cases acc with
    | nil => rfl
    | cons t r =>
      unfold stR
      dsimp only
      rw [if_neg (by rw [h t rfl]; exact Bool.false_ne_true)]
      rfl
  | m + 1 => by
    rw [dnU_add, List.foldl_append, fold_dn h m]
    show stR (.leg n i (i - ((m + 1 : Nat) : Int)) :: acc) (.leg n (i - ((m + 1 : Nat) : Int) - ((0 : Nat) : Int)) (i - ((m + 1 : Nat) : Int) - ((0 : Nat) : Int) - 1)) = _
    have e : i - ((m + 1 : Nat) : Int) - ((0 : Nat) : Int) = i - ((m + 1 : Nat) : Int) := by omega
    have e2 : i - ((m + 1 : Nat) : Int) - 1 = i - ((m + 1 + 1 : Nat) : Int) := by omega
    rw [e, e2]
    unfold stR
    dsimp only
    have c : isOne (.leg n i (i - ((m + 1 : Nat) : Int))) (.leg n (i - ((m + 1 : Nat) : Int)) (i - ((m + 1 + 1 : Nat) : Int))) = true := by
      show (decide (n = n) && decide (i - ((m + 1 : Nat) : Int) = i - ((m + 1 : Nat) : Int)) && (decide (i < i - ((m + 1 : Nat) : Int)) == decide (i - ((m + 1 : Nat) : Int) < i - ((m + 1 + 1 : Nat) : Int)))) = true
      rw [decide_eq_true rfl, decide_eq_true rfl, decide_eq_false (by omega : ¬ i < i - ((m + 1 : Nat) : Int)), decide_eq_false (by omega : ¬ i - ((m + 1 : Nat) : Int) < i - ((m + 1 + 1 : Nat) : Int))]
      rfl
    rw [if_pos c]
    rfl
theorem isOne_dir {t : Lg} {n : Str} {i j k : Int} (h : decide (i < j) = decide (i < k)) : isOne t (.leg n i j) = isOne t (.leg n i k) := by
  cases t with
  | ride => rfl
  | leg a p q =>
    show (decide (a = n) && decide (q = i) && (decide (p < q) == decide (i < j))) = (decide (a = n) && decide (q = i) && (decide (p < q) == decide (i < k)))
    rw [h]
theorem fold_leg {l : Lg} {acc : List Lg} (hv : Vl l) (h : ∀ t, acc.head? = some t → isOne t l = false) : (units l).foldl stR acc = l :: acc := by
  cases l with
  | ride =>
    show stR acc .ride = _
    cases acc with
    | nil => rfl
    | cons t r =>
      unfold stR
      dsimp only
      rw [if_neg (by rw [h t rfl]; exact Bool.false_ne_true)]
  | leg n i j =>
    have hv' : i ≠ j := hv
    show (if i < j then upU n i (j - i).toNat else dnU n i (i - j).toNat).foldl stR acc = _
    by_cases c : i < j
    · rw [if_pos c]
      obtain ⟨m, hm⟩ : ∃ m, (j - i).toNat = m + 1 := ⟨(j - i).toNat - 1, by omega⟩
      rw [hm, fold_up (fun t ht => by rw [isOne_dir (k := j) (by rw [decide_eq_true c, decide_eq_true (by omega)])]; exact h t ht) m]
      have e : i + ((m + 1 : Nat) : Int) = j := by omega
      rw [e]
    · rw [if_neg c]
      obtain ⟨m, hm⟩ : ∃ m, (i - j).toNat = m + 1 := ⟨(i - j).toNat - 1, by omega⟩
      rw [hm, fold_dn (fun t ht => by rw [isOne_dir (k := j) (by rw [decide_eq_false c, decide_eq_false (by omega)])]; exact h t ht) m]
      have e : i - ((m + 1 : Nat) : Int) = j := by omega
      rw [e]
theorem fold_back : ∀ (s acc : List Lg), NA s → (∀ x ∈ s, Vl x) → (∀ t l, acc.head? = some t → s.head? = some l → isOne t l = false) → (s.flatMap units).foldl stR acc = s.reverse ++ acc
  | [], _, _, _, _ => rfl
  | l :: r, acc, hn, hv, h => by
    rw [List.flatMap_cons, List.foldl_append, fold_leg (hv l List.mem_cons_self) (fun t ht => h t l ht rfl), fold_back r (l :: acc) hn.2 (fun x hx => hv x (List.mem_cons_of_mem _ hx)) (fun t b ht hb => by cases ht; exact hn.1 b hb)]
    rw [List.reverse_cons, List.append_assoc]
    rfl
theorem short_of_units {s : List Lg} (hn : NA s) (hv : ∀ x ∈ s, Vl x) : shortL (s.flatMap units) = s := by
  unfold shortL shortR
  rw [fold_back s [] hn hv (fun t l z => nomatch z), List.append_nil, List.reverse_reverse]
theorem na_uniq {s t : List Lg} (hs : NA s) (ht : NA t) (vs : ∀ x ∈ s, Vl x) (vt : ∀ x ∈ t, Vl x) (e : s.flatMap units = t.flatMap units) : s = t := by
  rw [← short_of_units hs vs, ← short_of_units ht vt, e]
theorem turnL_turnL (l : Lg) : turnL (turnL l) = l := by cases l <;> rfl
theorem turned_turned (ls : List Lg) : turnedL (turnedL ls) = ls := by
  unfold turnedL
  rw [← List.map_reverse, List.reverse_reverse, List.map_map]
  have : turnL ∘ turnL = id := funext turnL_turnL
  rw [this, List.map_id]
theorem turnL_vl {l : Lg} (h : Vl l) : Vl (turnL l) := by
  cases l with
  | ride => trivial
  | leg n i j => exact Ne.symm h
theorem turned_vl {ls : List Lg} (h : ∀ x ∈ ls, Vl x) : ∀ x ∈ turnedL ls, Vl x := by
  intro x hx
  obtain ⟨y, hy, rfl⟩ := List.mem_map.mp hx
  exact turnL_vl (h y (List.mem_reverse.mp hy))
theorem isOne_turn {a b : Lg} (ha : Vl a) (hb : Vl b) : isOne (turnL b) (turnL a) = isOne a b := by
  cases a with
  | ride => cases b <;> rfl
  | leg n i j =>
    cases b with
    | ride => rfl
    | leg m k l =>
      have h1 : i ≠ j := ha
      have h2 : k ≠ l := hb
      show (decide (m = n) && decide (k = j) && (decide (l < k) == decide (j < i))) = (decide (n = m) && decide (j = k) && (decide (i < j) == decide (k < l)))
      have e1 : decide (m = n) = decide (n = m) := by
        by_cases c : n = m
        · rw [decide_eq_true c, decide_eq_true c.symm]
        · rw [decide_eq_false c, decide_eq_false (Ne.symm c)]
      have e2 : decide (k = j) = decide (j = k) := by
        by_cases c : j = k
        · rw [decide_eq_true c, decide_eq_true c.symm]
        · rw [decide_eq_false c, decide_eq_false (Ne.symm c)]
      have e3 : decide (l < k) = !decide (k < l) := by
        by_cases c : k < l
        · rw [decide_eq_true c, decide_eq_false (by omega)]
          rfl
        · rw [decide_eq_false c, decide_eq_true (by omega)]
          rfl
      have e4 : decide (j < i) = !decide (i < j) := by
        by_cases c : i < j
        · rw [decide_eq_true c, decide_eq_false (by omega)]
          rfl
        · rw [decide_eq_false c, decide_eq_true (by omega)]
          rfl
      rw [e1, e2, e3, e4]
      cases decide (i < j) <;> cases decide (k < l) <;> rfl
theorem turned_cons (l : Lg) (r : List Lg) : turnedL (l :: r) = turnedL r ++ [turnL l] := by
  unfold turnedL
  rw [List.reverse_cons, List.map_append]
  rfl
theorem turned_last (r : List Lg) : (turnedL r).getLast? = r.head?.map turnL := by
  unfold turnedL
  rw [List.getLast?_map, List.getLast?_reverse]
theorem turned_na : ∀ {s : List Lg}, NA s → (∀ x ∈ s, Vl x) → NA (turnedL s)
  | [], _, _ => trivial
  | l :: r, h, hv => by
    rw [turned_cons]
    refine na_snoc (turned_na h.2 fun x hx => hv x (List.mem_cons_of_mem _ hx)) fun b hb => ?_
    rw [turned_last] at hb
    obtain ⟨c, hc, rfl⟩ := Option.map_eq_some_iff.mp hb
    rw [isOne_turn (hv l List.mem_cons_self) (hv c (List.mem_cons_of_mem _ (List.mem_of_mem_head? hc)))]
    exact h.1 c hc
theorem dn_of_up (n : Str) (i : Int) : ∀ k : Nat, dnU n (i + (k : Nat)) k = turnedL (upU n i k)
  | 0 => rfl
  | k + 1 => by
    have e1 : dnU n (i + ((k + 1 : Nat) : Int)) (k + 1) = dnU n (i + ((k + 1 : Nat) : Int)) 1 ++ dnU n (i + ((k + 1 : Nat) : Int) - ((1 : Nat) : Int)) k := by
      rw [Nat.add_comm k 1, dnU_add]
    have e2 : i + ((k + 1 : Nat) : Int) - ((1 : Nat) : Int) = i + (k : Nat) := by omega
    rw [e1, e2, dn_of_up n i k, upU_add]
    unfold turnedL
    rw [List.reverse_append, List.map_append]
    congr 1
    show [Lg.leg n (i + ((k + 1 : Nat) : Int) - ((0 : Nat) : Int)) (i + ((k + 1 : Nat) : Int) - ((0 : Nat) : Int) - 1)] = [Lg.leg n (i + (k : Nat) + ((0 : Nat) : Int) + 1) (i + (k : Nat) + ((0 : Nat) : Int))]
    have e3 : i + ((k + 1 : Nat) : Int) - ((0 : Nat) : Int) = i + (k : Nat) + ((0 : Nat) : Int) + 1 := by omega
    have e4 : i + (k : Nat) + ((0 : Nat) : Int) + 1 - 1 = i + (k : Nat) + ((0 : Nat) : Int) := by omega
    rw [e3, e4]
theorem units_turn (l : Lg) : units (turnL l) = turnedL (units l) := by
  cases l with
  | ride => rfl
  | leg n i j =>
    show (if j < i then upU n j (i - j).toNat else dnU n j (j - i).toNat) = turnedL (if i < j then upU n i (j - i).toNat else dnU n i (i - j).toNat)
    by_cases c : i < j
    · rw [if_neg (by omega), if_pos c, ← dn_of_up]
      have e : i + ((j - i).toNat : Int) = j := by omega
      rw [e]
    · rw [if_neg c]
      by_cases c2 : j < i
      · rw [if_pos c2]
        have e : j + ((i - j).toNat : Int) = i := by omega
        have := dn_of_up n j (i - j).toNat
        rw [e] at this
        rw [this, turned_turned]
      · rw [if_neg c2]
        have e1 : (j - i).toNat = 0 := by omega
        have e2 : (i - j).toNat = 0 := by omega
        rw [e1, e2]
        rfl
theorem turned_app (a b : List Lg) : turnedL (a ++ b) = turnedL b ++ turnedL a := by
  unfold turnedL
  rw [List.reverse_append, List.map_append]
theorem flat_turned : ∀ ls : List Lg, (turnedL ls).flatMap units = turnedL (ls.flatMap units)
  | [] => rfl
  | l :: r => by
    have e : (l :: r).flatMap units = units l ++ r.flatMap units := List.flatMap_cons
    rw [turned_cons, List.flatMap_append, flat_turned r, e, turned_app]
    congr 1
    rw [List.flatMap_cons, List.flatMap_nil, List.append_nil, units_turn]
theorem short_turned {ls : List Lg} (h : ∀ x ∈ ls, Vl x) : shortL (turnedL ls) = turnedL (shortL ls) :=
  na_uniq (short_na _) (turned_na (short_na _) (short_vl h)) (short_vl (turned_vl h)) (turned_vl (short_vl h)) (by rw [short_units, flat_turned, flat_turned, short_units])
theorem short_short {ls : List Lg} (h : ∀ x ∈ ls, Vl x) : shortL (shortL ls) = shortL ls :=
  na_uniq (short_na _) (short_na _) (short_vl (short_vl h)) (short_vl h) (short_units _)
/-! what is passed, and how far -/
theorem fold_flat {β : Type} {g : Lg → List β} (h : ∀ x y, isOne x y = true → g (mergeL x y) = g x ++ g y) : ∀ (ls acc : List Lg), (ls.foldl stR acc).reverse.flatMap g = acc.reverse.flatMap g ++ ls.flatMap g
  | [], acc => by simp
  | l :: r, acc => by
    have st : (stR acc l).reverse.flatMap g = acc.reverse.flatMap g ++ g l := by
      cases acc with
      | nil => simp [stR]
      | cons t r =>
        unfold stR
        dsimp only
        split
        · next c => simp [h _ _ c]
        · simp
    have e : (l :: r).flatMap g = g l ++ r.flatMap g := List.flatMap_cons
    rw [List.foldl_cons, fold_flat h r, st, e, List.append_assoc]
theorem short_flat {β : Type} {g : Lg → List β} (h : ∀ x y, isOne x y = true → g (mergeL x y) = g x ++ g y) (ls : List Lg) : (shortL ls).flatMap g = ls.flatMap g := by
  unfold shortL shortR
  rw [fold_flat h]
  rfl
def stepsL (i j : Int) : List (Int × Bool) := if i < j then (List.range (j - i).toNat).map (fun m => (i + (m : Nat), true)) else (List.range (i - j).toNat).map (fun m => (i - 1 - (m : Nat), false))
def stepsG : Lg → List (Int × Bool)
  | .ride => []
  | .leg _ i j => stepsL i j
def nmG : Lg → Str
  | .ride => ""
  | .leg n _ _ => n
def passG (l : Lg) : List (Str × Int × Bool) := (stepsG l).map fun p => (nmG l, p.1, p.2)
theorem steps_add_up {i j k : Int} (h1 : i < j) (h2 : j < k) : stepsL i k = stepsL i j ++ stepsL j k := by
  unfold stepsL
  rw [if_pos (by omega), if_pos h1, if_pos h2]
  have e : (k - i).toNat = (j - i).toNat + (k - j).toNat := by omega
  rw [e, List.range_add, List.map_append, List.map_map]
  congr 1
  apply List.map_congr_left
  intro m _
  show (i + (((j - i).toNat + m : Nat) : Int), true) = (j + (m : Nat), true)
  congr 1
  omega
theorem steps_add_dn {i j k : Int} (h1 : j ≤ i) (h2 : k ≤ j) : stepsL i k = stepsL i j ++ stepsL j k := by
  unfold stepsL
  rw [if_neg (by omega), if_neg (by omega), if_neg (by omega)]
  have e : (i - k).toNat = (i - j).toNat + (j - k).toNat := by omega
  rw [e, List.range_add, List.map_append, List.map_map]
  congr 1
  apply List.map_congr_left
  intro m _
  show (i - 1 - (((i - j).toNat + m : Nat) : Int), false) = (j - 1 - (m : Nat), false)
  congr 1
  omega
theorem pass_merge (x y : Lg) (h : isOne x y = true) : passG (mergeL x y) = passG x ++ passG y := by
  obtain ⟨n, i, j, k, rfl, rfl, c | c⟩ := isOne_leg h
  · show (stepsL i k).map _ = (stepsL i j).map _ ++ (stepsL j k).map _
    rw [steps_add_up c.1 c.2, List.map_append]
    rfl
  · show (stepsL i k).map _ = (stepsL i j).map _ ++ (stepsL j k).map _
    rw [steps_add_dn c.1 c.2, List.map_append]
    rfl
theorem short_pass (ls : List Lg) : (shortL ls).flatMap passG = ls.flatMap passG := short_flat pass_merge ls
/-- each two neighbours joined, where both would count -/
def chn : List (Option (Str × Str)) → Prop
  | [] => True
  | a :: r => (∀ b, r.head? = some b → okPair (a, b) = true) ∧ chn r
theorem sound_chn : ∀ es : List (Option (Str × Str)), sound es = true ↔ chn es
  | [] => ⟨fun _ => trivial, fun _ => rfl⟩
  | [a] => ⟨fun _ => ⟨(fun b z => nomatch z), trivial⟩, fun _ => rfl⟩
  | a :: b :: r => by
    have ih := sound_chn (b :: r)
    have e : sound (a :: b :: r) = (okPair (a, b) && sound (b :: r)) := rfl
    rw [e, Bool.and_eq_true, ih]
    exact ⟨fun h => ⟨fun c hc => by cases hc; exact h.1, h.2⟩, fun h => ⟨h.1 b rfl, h.2⟩⟩
theorem chn_merge {a b c : Option (Str × Str)} (h1 : ∀ x, okPair (x, a) = true → okPair (x, c) = true) (h2 : ∀ y, okPair (b, y) = true → okPair (c, y) = true) : ∀ {xs ys : List (Option (Str × Str))}, chn (xs ++ a :: b :: ys) → chn (xs ++ c :: ys)
  | [], ys, h => ⟨fun y hy => h2 y (h.2.1 y hy), h.2.2⟩
  | [x], ys, h => ⟨fun y hy => by cases hy; exact h1 x (h.1 a rfl), chn_merge (xs := []) h1 h2 h.2⟩
  | x :: x2 :: r, ys, h => ⟨fun y hy => h.1 y hy, chn_merge (xs := x2 :: r) h1 h2 h.2⟩
section
variable {ss : List Sec}
def AllC (ss : List Sec) (ls : List Lg) : Prop := ∀ l ∈ ls, l = .ride ∨ (secFor ss l none).isSome = true
theorem find_name {nm : Str} {i j : Int} {s : Sec} (nd : (ss.map Sec.nm).Nodup) (h : ss.find? (secHas nm i j) = some s) : s ∈ ss ∧ s.nm = nm ∧ hiI i j < (s.ms.length : Nat) := by
  have h1 := List.find?_some h
  unfold secHas at h1
  rw [Bool.and_eq_true, decide_eq_true_eq, decide_eq_true_eq] at h1
  exact ⟨List.mem_of_find?_eq_some h, h1⟩
theorem name_inj : ∀ {ss : List Sec} {s t : Sec}, (ss.map Sec.nm).Nodup → s ∈ ss → t ∈ ss → s.nm = t.nm → s = t
  | x :: r, s, t, nd, hs, ht, e => by
    rw [List.map_cons, List.nodup_cons] at nd
    rcases List.mem_cons.mp hs with hs1 | hs1
    · rcases List.mem_cons.mp ht with ht1 | ht1
      · rw [hs1, ht1]
      · exact absurd (by rw [← hs1, e]; exact List.mem_map_of_mem ht1) nd.1
    · rcases List.mem_cons.mp ht with ht1 | ht1
      · exact absurd (by rw [← ht1, ← e]; exact List.mem_map_of_mem hs1) nd.1
      · exact name_inj nd.2 hs1 ht1 e
theorem find_of {nm : Str} {i j : Int} {s : Sec} (nd : (ss.map Sec.nm).Nodup) (hs : s ∈ ss) (hn : s.nm = nm) (hh : hiI i j < (s.ms.length : Nat)) : ss.find? (secHas nm i j) = some s := by
  have hp : secHas nm i j s = true := by
    unfold secHas
    rw [decide_eq_true hn, decide_eq_true hh]
    rfl
  cases e : ss.find? (secHas nm i j) with
  | none =>
    rw [List.find?_eq_none] at e
    exact absurd hp (e s hs)
  | some t =>
    obtain ⟨h1, h2, _⟩ := find_name nd e
    rw [name_inj nd h1 hs (h2.trans hn.symm)]
theorem secFor_leg (nm : Str) (i j : Int) : secFor ss (.leg nm i j) none = ss.find? (secHas nm i j) := rfl
theorem hi_lt {i j m : Int} (h1 : i < m) (h2 : j < m) : hiI i j < m := by
  unfold hiI
  split
  · exact h2
  · exact h1
theorem merge_ends {x y : Lg} (nd : (ss.map Sec.nm).Nodup) (h : isOne x y = true) (hx : (secFor ss x none).isSome = true) (hy : (secFor ss y none).isSome = true) : ∃ p q r, endsOf ss x none = some (p, q) ∧ endsOf ss y none = some (q, r) ∧ endsOf ss (mergeL x y) none = some (p, r) ∧ (secFor ss (mergeL x y) none).isSome = true := by
  obtain ⟨n, i, j, k, rfl, rfl, _⟩ := isOne_leg h
  obtain ⟨s, hs⟩ := Option.isSome_iff_exists.mp hx
  obtain ⟨t, ht⟩ := Option.isSome_iff_exists.mp hy
  rw [secFor_leg] at hs ht
  obtain ⟨s1, s2, s3⟩ := find_name nd hs
  obtain ⟨t1, t2, t3⟩ := find_name nd ht
  have e := name_inj nd s1 t1 (s2.trans t2.symm)
  subst e
  have hm : ss.find? (secHas n i k) = some s := find_of nd s1 s2 (hi_lt (hi_le s3).1 (hi_le t3).2)
  have e1 : endsOf ss (.leg n i j) none = some (s.ms.getD i.toNat "", s.ms.getD j.toNat "") := by
    unfold endsOf
    dsimp only
    rw [secFor_leg, hs]
    rfl
  have e2 : endsOf ss (.leg n j k) none = some (s.ms.getD j.toNat "", s.ms.getD k.toNat "") := by
    unfold endsOf
    dsimp only
    rw [secFor_leg, ht]
    rfl
  have e3 : endsOf ss (.leg n i k) none = some (s.ms.getD i.toNat "", s.ms.getD k.toNat "") := by
    unfold endsOf
    dsimp only
    rw [secFor_leg, hm]
    rfl
  exact ⟨_, _, _, e1, e2, e3, by show (secFor ss (.leg n i k) none).isSome = true; rw [secFor_leg, hm]; rfl⟩
theorem stR_cnt {acc rest : List Lg} {l : Lg} (nd : (ss.map Sec.nm).Nodup) (ha : AllC ss acc) (hl : l = .ride ∨ (secFor ss l none).isSome = true) (hc : chn ((acc.reverse ++ l :: rest).map fun l => endsOf ss l none)) : AllC ss (stR acc l) ∧ chn (((stR acc l).reverse ++ rest).map fun l => endsOf ss l none) := by
  cases acc with
  | nil => exact ⟨fun x hx => by rw [List.mem_singleton.mp hx]; exact hl, hc⟩
  | cons t r =>
    unfold stR
    dsimp only
    split
    · next c =>
      have tx : (secFor ss t none).isSome = true := (ha t List.mem_cons_self).resolve_left fun z => by subst z; cases c
      have lx : (secFor ss l none).isSome = true := hl.resolve_left fun z => by
        subst z
        obtain ⟨_, _, _, _, _, z, _⟩ := isOne_leg c
        cases z
      obtain ⟨p, q, u, e1, e2, e3, e4⟩ := merge_ends nd c tx lx
      refine ⟨fun x hx => ?_, ?_⟩
      · rcases List.mem_cons.mp hx with rfl | z
        · exact .inr e4
        · exact ha x (List.mem_cons_of_mem _ z)
      · rw [List.reverse_cons, List.append_assoc, List.map_append] at hc ⊢
        show chn (_ ++ endsOf ss (mergeL t l) none :: _)
        have hc' : chn (r.reverse.map (fun l => endsOf ss l none) ++ endsOf ss t none :: endsOf ss l none :: rest.map fun l => endsOf ss l none) := hc
        rw [e1, e2] at hc'
        rw [e3]
        exact chn_merge (fun x h => by cases x <;> exact h) (fun y h => by cases y <;> exact h) hc'
    · refine ⟨fun x hx => ?_, ?_⟩
      · rcases List.mem_cons.mp hx with rfl | z
        · exact hl
        · exact ha x z
      · rw [List.reverse_cons, List.append_assoc]
        exact hc
theorem fold_cnt (nd : (ss.map Sec.nm).Nodup) : ∀ (ls acc : List Lg), AllC ss acc → AllC ss ls → chn ((acc.reverse ++ ls).map fun l => endsOf ss l none) → AllC ss (ls.foldl stR acc) ∧ chn ((ls.foldl stR acc).reverse.map fun l => endsOf ss l none)
  | [], acc, ha, _, hc => ⟨ha, by rw [List.append_nil] at hc; exact hc⟩
  | l :: r, acc, ha, hl, hc => by
    obtain ⟨h1, h2⟩ := stR_cnt nd ha (hl l List.mem_cons_self) hc
    exact fold_cnt nd r (stR acc l) h1 (fun x hx => hl x (List.mem_cons_of_mem _ hx)) h2
theorem short_cnt {ls : List Lg} (nd : (ss.map Sec.nm).Nodup) (hl : AllC ss ls) (hs : soundL ss ls none = true) : AllC ss (shortL ls) ∧ soundL ss (shortL ls) none = true := by
  obtain ⟨h1, h2⟩ := fold_cnt nd ls [] (fun _ z => nomatch z) hl ((sound_chn _).mp hs)
  exact ⟨fun x hx => h1 x (List.mem_reverse.mp hx), (sound_chn _).mpr h2⟩
def isLeg : Lg → Bool
  | .ride => false
  | .leg _ _ _ => true
theorem some_leg {l : Lg} (h : (secFor ss l none).isSome = true) : isLeg l = true := by
  cases l with
  | ride => cases h
  | leg n i j => rfl
theorem filt_len {α : Type} {p q : α → Bool} (h : ∀ x, p x = true → q x = true) : ∀ {xs : List α}, (xs.filter p).length = (xs.filter q).length → ∀ x ∈ xs, q x = true → p x = true
  | [], _, x, hx, _ => nomatch hx
  | y :: r, e, x, hx, hq => by
    have le : ∀ zs : List α, (zs.filter p).length ≤ (zs.filter q).length := fun zs => by
      induction zs with
      | nil => exact Nat.le_refl _
      | cons z r ih =>
        rw [List.filter_cons, List.filter_cons]
        cases hp : p z with
        | true =>
          rw [if_pos rfl, if_pos (h z hp)]
          exact Nat.succ_le_succ ih
        | false =>
          rw [if_neg Bool.false_ne_true]
          split
          · exact Nat.le_succ_of_le ih
          · exact ih
    rw [List.filter_cons, List.filter_cons] at e
    cases hp : p y with
    | true =>
      rw [if_pos hp, if_pos (h y hp)] at e
      rcases List.mem_cons.mp hx with rfl | z
      · exact hp
      · exact filt_len h (Nat.succ.inj e) x z hq
    | false =>
      rw [if_neg (by rw [hp]; exact Bool.false_ne_true)] at e
      cases hqy : q y with
      | true =>
        rw [if_pos hqy] at e
        have := le r
        have e2 : (r.filter p).length = (r.filter q).length + 1 := e
        omega
      | false =>
        rw [if_neg (by rw [hqy]; exact Bool.false_ne_true)] at e
        rcases List.mem_cons.mp hx with rfl | z
        · rw [hqy] at hq
          cases hq
        · exact filt_len h e x z hq
theorem no_legs : ∀ {ls : List Lg}, (∀ l ∈ ls, isLeg l = false) → chn (ls.map fun l => endsOf ss l none)
  | [], _ => trivial
  | l :: r, h => by
    have e : endsOf ss l none = none := by
      cases l with
      | ride => rfl
      | leg n i j => exact absurd (h _ List.mem_cons_self) (by show ¬ (true = false); decide)
    refine ⟨fun b _ => ?_, no_legs fun x hx => h x (List.mem_cons_of_mem _ hx)⟩
    dsimp only
    rw [e]
    rfl
/-- as many count as there are: all count, and they are sound -/
theorem all_count {ls : List Lg} (h : (cntL ss ls none).length = (ls.filter isLeg).length) : AllC ss ls ∧ soundL ss ls none = true := by
  have hs : soundL ss ls none = true := by
    cases e : soundL ss ls none with
    | true => rfl
    | false =>
      unfold cntL at h
      rw [if_neg (by rw [e]; exact Bool.false_ne_true)] at h
      have z : ls.filter isLeg = [] := List.length_eq_zero_iff.mp h.symm
      have : soundL ss ls none = true := (sound_chn _).mpr (no_legs fun l hl => by
        rw [List.filter_eq_nil_iff] at z
        exact Bool.eq_false_iff.mpr (z l hl))
      rw [e] at this
      exact this
  refine ⟨fun l hl => ?_, hs⟩
  unfold cntL at h
  rw [if_pos hs] at h
  cases l with
  | ride => exact .inl rfl
  | leg n i j => exact .inr (filt_len (p := fun l => (secFor ss l none).isSome) (q := isLeg) (fun x hx => some_leg hx) h _ hl rfl)
def passL (ss : List Sec) (ls : List Lg) (cl : Option (List Str)) : List (Str × Int × Bool) := (cntL ss ls cl).flatMap passG
theorem pass_all {ls : List Lg} (h : AllC ss ls) (hs : soundL ss ls none = true) : passL ss ls none = ls.flatMap passG := by
  unfold passL cntL
  rw [if_pos hs]
  clear hs
  induction ls with
  | nil => rfl
  | cons l r ih =>
    have ihr := ih fun x hx => h x (List.mem_cons_of_mem _ hx)
    have e : (l :: r).flatMap passG = passG l ++ r.flatMap passG := List.flatMap_cons
    rw [List.filter_cons, e]
    rcases h l List.mem_cons_self with rfl | hx
    · exact ihr
    · rw [if_pos hx, List.flatMap_cons, ihr]
theorem pass_short {ls : List Lg} (nd : (ss.map Sec.nm).Nodup) (h : (cntL ss ls none).length = (ls.filter isLeg).length) : passL ss (shortL ls) none = passL ss ls none := by
  obtain ⟨h1, h2⟩ := all_count h
  obtain ⟨h3, h4⟩ := short_cnt nd h1 h2
  rw [pass_all h1 h2, pass_all h3 h4, short_pass]
end
end Pb

namespace Pb
open PySem PySem.Spec PyProof.Rows L2 TL
/-! ### the program's: names, sections by their names, steps, legs turned about and shortened -/
abbrev s_is_name : Stmt := top 7
abbrev n_is_name : List Str := ["thing", "sign"]
abbrev p_is_name : List Str := ["thing"]
theorem sc_is_name : FnScope n_is_name p_is_name (defScope s_is_name) := ⟨rfl, rfl, rfl, by decide +kernel, rfl, by decide +kernel, by decide +kernel⟩
abbrev s_section_of : Stmt := top 9
abbrev n_section_of : List Str := ["book", "name", "section"]
abbrev p_section_of : List Str := ["book", "name"]
theorem sc_section_of : FnScope n_section_of p_section_of (defScope s_section_of) := ⟨rfl, rfl, rfl, by decide +kernel, rfl, by decide +kernel, by decide +kernel⟩
abbrev s_steps_of : Stmt := top 11
abbrev n_steps_of : List Str := ["leg", "name", "i", "j", "k"]
abbrev p_steps_of : List Str := ["leg"]
theorem sc_steps_of : FnScope n_steps_of p_steps_of (defScope s_steps_of) := ⟨rfl, rfl, rfl, by decide +kernel, rfl, by decide +kernel, by decide +kernel⟩
abbrev s_turned : Stmt := top 14
abbrev n_turned : List Str := ["legs", "leg"]
abbrev p_turned : List Str := ["legs"]
theorem sc_turned : FnScope n_turned p_turned (defScope s_turned) := ⟨rfl, rfl, rfl, by decide +kernel, rfl, by decide +kernel, by decide +kernel⟩
def tr_is_name : Tr := fun as P => ∃ x : Str, as = [.da (.str x)] ∧ Nm x ∧ P (.da (.bool true))
def tr_section_of : Tr := fun as P => ∃ (ss : List Sec) (r : D3) (nm : Str) (s : Sec), as = [.da (bkD ss r), .da (.str nm)] ∧ ((ss.map Sec.nm).Nodup ∧ s ∈ ss ∧ s.nm = nm ∧ Nm nm) ∧ P (.da (secD s))
def stepD (p : Int × Bool) : PyData := .tuple [.int p.1, .bool p.2]
def tr_steps_of : Tr := fun as P => ∃ (nm : Str) (i j : Int), as = [.da (legD (.leg nm i j))] ∧ (0 ≤ i ∧ i ≤ 7 ∧ 0 ≤ j ∧ j ≤ 7) ∧ P (.fr ((stepsL i j).map stepD))
def tr_turned : Tr := fun as P => ∃ ls : List Lg, as = [.da (.tuple (ls.map legD))] ∧ ((∀ l ∈ ls, LgOk l) ∧ ls.length ≤ 1000) ∧ P (.da (.tuple ((turnedL ls).map legD)))
def tr_are_one : Tr := fun as P => ∃ x y : Lg, as = [.da (legD x), .da (legD y)] ∧ (LgOk x ∧ LgOk y) ∧ P (.da (.bool (isOne x y)))
def tr_shortened : Tr := fun as P => ∃ ls : List Lg, as = [.da (.tuple (ls.map legD))] ∧ ((∀ l ∈ ls, LgOk l) ∧ ls.length ≤ 1000) ∧ P (.da (.tuple ((shortL ls).map legD)))
theorem str_len (x : Str) : x.length = (tl x).length := Array.length_toList.symm
theorem ltr_mem {c : Nat} (h : 97 ≤ c ∧ c ≤ 122) : c ∈ ltrS.cps.toList := by
  have : ∀ k, k < 26 → (97 + k) ∈ ltrS.cps.toList := by decide +kernel
  have e : c = 97 + (c - 97) := by omega
  rw [e]
  exact this _ (by omega)
theorem mergeL_ok {x y : Lg} (h : isOne x y = true) (hx : LgOk x) (hy : LgOk y) : LgOk (mergeL x y) := by
  obtain ⟨n, i, j, k, rfl, rfl, _⟩ := isOne_leg h
  exact ⟨hx.1, hx.2.1, hx.2.2.1, hy.2.2.2.1, hy.2.2.2.2⟩
theorem stR_ok {acc : List Lg} {l : Lg} (h : ∀ x ∈ acc, LgOk x) (hl : LgOk l) : ∀ x ∈ stR acc l, LgOk x := by
  cases acc with
  | nil =>
    intro x hx
    rw [List.mem_singleton.mp hx]
    exact hl
  | cons t r =>
    unfold stR
    dsimp only
    split
    · next c =>
      intro x hx
      rcases List.mem_cons.mp hx with rfl | z
      · exact mergeL_ok c (h t List.mem_cons_self) hl
      · exact h x (List.mem_cons_of_mem _ z)
    · intro x hx
      rcases List.mem_cons.mp hx with rfl | z
      · exact hl
      · exact h x z
theorem stR_len (acc : List Lg) (l : Lg) : (stR acc l).length ≤ acc.length + 1 := by
  cases acc with
  | nil => exact Nat.le_refl _
  | cons t r =>
    unfold stR
    dsimp only
    split
    · show r.length + 1 ≤ r.length + 1 + 1
      omega
    · exact Nat.le_refl _
theorem fold_ok : ∀ (ls acc : List Lg), (∀ x ∈ ls, LgOk x) → (∀ x ∈ acc, LgOk x) → (∀ x ∈ ls.foldl stR acc, LgOk x) ∧ (ls.foldl stR acc).length ≤ acc.length + ls.length
  | [], _, _, h => ⟨h, Nat.le_refl _⟩
  | l :: r, acc, hl, h => by
    obtain ⟨h1, h2⟩ := fold_ok r (stR acc l) (fun x hx => hl x (List.mem_cons_of_mem _ hx)) (stR_ok h (hl l List.mem_cons_self))
    have := stR_len acc l
    exact ⟨h1, by show (r.foldl stR (stR acc l)).length ≤ acc.length + (r.length + 1); omega⟩
theorem short_ok {ls : List Lg} (h : ∀ x ∈ ls, LgOk x) : (∀ x ∈ shortL ls, LgOk x) ∧ (shortL ls).length ≤ ls.length := by
  obtain ⟨h1, h2⟩ := fold_ok ls [] h (fun _ z => nomatch z)
  refine ⟨fun x hx => h1 x (List.mem_reverse.mp hx), ?_⟩
  unfold shortL shortR
  rw [List.length_reverse]
  simpa using h2
theorem turn_ok {l : Lg} (h : LgOk l) : LgOk (turnL l) := by
  cases l with
  | ride => trivial
  | leg n i j => exact ⟨h.1, h.2.2.2.1, h.2.2.2.2, h.2.1, h.2.2.1⟩
theorem turned_ok {ls : List Lg} (h : ∀ x ∈ ls, LgOk x) : ∀ x ∈ turnedL ls, LgOk x := by
  intro x hx
  obtain ⟨y, hy, rfl⟩ := List.mem_map.mp hx
  exact turn_ok (h y (List.mem_reverse.mp hy))
theorem turned_len (ls : List Lg) : (turnedL ls).length = ls.length := by
  unfold turnedL
  rw [List.length_map, List.length_reverse]
section
variable {P : Program} {w : World} {K : PySem.W.Frag} {mg : Str → Option Value} {base : Heap}
theorem kn_is_name (D : Df K mg "is_name" s_is_name) (B : BG mg) {t1 t2 : Tok} (gLet : mg "LETTERS" = some (.str ltrS t1)) (gLong : mg "LONGEST_NAME" = some (.int 8 t2)) : Kn P w K mg base "is_name" 1 p_is_name (spD K tr_is_name) := by
  refine D.knD sc_is_name (fun _ _ _ _ _ _ us hl => match us, hl with | [_], _ => rfl) (fun as Q h => by obtain ⟨x, rfl, _⟩ := h; rfl) (fun f cdv A outer s H E gd hr => ?_)
  refine ⟨_, PSs.nox (pss_cons (ps_if (PW.pt (pw_or (pt_not (pt_val (pe_callB call_isi rfl B.isinstance boot_isinstance (pa_cons (pv 0) (pa_cons (pe_bltn (v := .ty "str") rfl B.str PyProof.Rows.boot_str rfl) pa_nil))))) (pw_or1 (pt_not (pt_chain op_le op_le pe_int (pe_callB call_len rfl B.len PySem.boot_len (pa_cons (pv 0) pa_nil)) (pe_glob (v := .int 8) rfl gLong ⟨_, rfl⟩)))))) (pss_one (ps_ret pe_bl)) pss_nil) (pss_one (ps_ret (pe_callB (cr_all rfl) rfl B.all bt_all (pa_cons (pe_lc (own := [("sign", 1)]) (g := gName 1) (tt := tYes) (te := tOp rInS (tVar 1) (tC (.str ltrS))) rfl sc_is_name.nd (pi_str (pv 0)) (blkOk_by (N := n_is_name) (sc := defScope s_is_name) (by decide +kernel)) (fun _ _ _ _ _ => (pg_name (i := 1) sc_is_name.nd rfl (.inl rfl))) (fun _ _ _ _ _ => pts_nil) (fun _ _ _ _ _ => (pe_cmpR op_in_sign (pv 1) (pe_glob (v := .str ltrS) rfl gLet ⟨_, rfl⟩) rfl))) pa_nil))))), fun as Q h => ?_⟩
  try dsimp only [cxOf]
  obtain ⟨x, rfl, nx, q⟩ := h
  have xl := str_len x
  have x1 := nx.2.1
  have x8 := nx.2.2
  refine s_seq (s_ite (c := false) (EvT.eq (ev_or (ev_not (ev_tB (ev_isi (ev_v rfl) (kit_self "str")))) (fun hc => (ev_not (ev_test (ev_chain ev_int (ev_cb (ev_cons (ev_v rfl) ev_nil) (d_lenS (by omega))) d_ib (ev_glob (fun _ _ => .int _)) d_ib))))) ?_) (fun hc => nomatch hc) (fun _ => s_next ?_))
  · rw [decide_eq_true (show (1 : Int) ≤ ((x.length : Nat) : Int) by omega), decide_eq_true (show ((x.length : Nat) : Int) ≤ 8 by omega)]
    rfl
  refine s_ret (Ev.w (ev_cb (ev_cons (ev_lc (i_str (ev_v rfl)) (by have : (tl x).length = x.cps.toList.length := rfl; omega) (fun x hx N hN => (g_name (by decide) hN)) (fun x hx => ev_yes) (fun x hx hp => (ev_op (ev_v rfl) (ev_glob (fun _ _ => .str _)) d_inG)) (fun x hx hp => rfl)) ev_nil) (d_all (show some _ = some ((x.cps.toList.map fun c => decide (c ∈ ltrS.cps.toList)).map PyData.bool) by rw [filt, List.map_map]; rfl))) ⟨_, rfl, ?_⟩)
  have e : (x.cps.toList.map fun c => decide (c ∈ ltrS.cps.toList)).all id = true := by
    rw [List.all_map, List.all_eq_true]
    intro c hc
    exact decide_eq_true (ltr_mem (nx.1 c hc))
  rw [e]
  exact q
theorem kn_section_of (D : Df K mg "section_of" s_section_of) (B : BG mg) (k_is_name : Kn P w K mg base "is_name" 1 p_is_name (spD K tr_is_name)) : Kn P w K mg base "section_of" 2 p_section_of (spD K tr_section_of) := by
  refine D.knD sc_section_of (fun _ _ _ _ _ _ us hl => match us, hl with | [_, _], _ => rfl) (fun as Q h => by obtain ⟨ss, r, nm, s, rfl, _⟩ := h; rfl) (fun f cdv A outer s H E gd hr => ?_)
  refine ⟨_, PSs.nox (pss_cons (ps_if (pt_val (pe_kn k_is_name gd (hr.mono (by decide)) rfl (pa_cons (pv 1) pa_nil))) (pss_one (ps_for PassesOwn.never rfl (pi_tup (pe_ix ix_tup (pv 0) pe_int (fun _ _ => rfl))) (pg_name (i := 2) sc_section_of.nd rfl (.inl rfl)) (pss_one (ps_if (pt_cmpR op_eq (pe_ix ix_tup (pv 2) pe_int (fun _ _ => rfl)) (pv 1) (nomark _)) (pss_one (ps_ret (pv 2))) pss_nil)))) pss_nil) (pss_one ps_no)), fun as Q h => ?_⟩
  try dsimp only [cxOf]
  obtain ⟨ss, r, nm, s, rfl, ⟨nd, hs, hn, nx⟩, q⟩ := h
  refine s_seq (s_ite (c := true) (ev_tB (ev_call (ev_cons (ev_v rfl) ev_nil) rfl (fun _ hp => ⟨_, rfl, (nx), hp⟩))) (fun _ => s_for (own := [2]) ((f_tup (ev_op (ev_v rfl) ev_int (d_ixT rfl))) _ _ ⟨fun k Γ' _ => ∃ x, Γ' = [.da (bkD ss r), .da (.str nm), x] ∧ ∀ t ∈ ss.take k, t.nm ≠ nm, ⟨.no, rfl, fun s hs => nomatch hs⟩, fun k d Γ' m hd hI => ?_, fun Γ' m hI => ?_⟩)) (fun hc => nomatch hc))
  · obtain ⟨x, rfl, hno⟩ := hI
    obtain ⟨t, ht, rfl⟩ := map_get hd
    refine g_name (by decide) (s_ite (ev_test (ev_op (ev_op (ev_v rfl) ev_int (d_ixT rfl)) (ev_v rfl) d_eqS)) (fun hc => s_ret (Ev.w (ev_v rfl) ⟨_, rfl, ?_⟩)) (fun hc => s_next ⟨_, rfl, take_snoc ht hno (of_decide_eq_false hc)⟩))
    rw [name_inj nd (List.mem_of_getElem? ht) hs ((of_decide_eq_true hc).trans hn.symm)]
    exact q
  · obtain ⟨x, rfl, hno⟩ := hI
    rw [List.length_map, List.take_length] at hno
    exact absurd hn (hno s hs)
theorem kn_steps_of (D : Df K mg "steps_of" s_steps_of) (B : BG mg) : Kn P w K mg base "steps_of" 1 p_steps_of (spD K tr_steps_of) := by
  refine D.knD sc_steps_of (fun _ _ _ _ _ _ us hl => match us, hl with | [_], _ => rfl) (fun as Q h => by obtain ⟨nm, i, j, rfl, _⟩ := h; rfl) (fun f cdv A outer s H E gd hr => ?_)
  refine ⟨_, PSs.nox (pss_cons (ps_asg (pv 0) (pg_tup rfl (pgs_cons (pg_name (i := 1) sc_steps_of.nd rfl (.inl rfl)) (pgs_cons (pg_name (i := 2) sc_steps_of.nd rfl (.inl rfl)) (pgs_cons (pg_name (i := 3) sc_steps_of.nd rfl (.inl rfl)) pgs_nil))))) (pss_cons (ps_if (pt_cmpR op_lt (pv 2) (pv 3) (nomark _)) (pss_one (ps_ret (pe_lc (own := [("k", 4)]) (g := gName 4) (tt := tYes) (te := tTup (tCons (tVar 4) (tCons (tC (.bl true)) (tNil)))) rfl sc_steps_of.nd (pi_range2 rfl B.range (pa_cons (pv 2) (pa_cons (pv 3) pa_nil))) (blkOk_by (N := n_steps_of) (sc := defScope s_steps_of) (by decide +kernel)) (fun _ _ _ _ _ => (pg_name (i := 4) sc_steps_of.nd rfl (.inl rfl))) (fun _ _ _ _ _ => pts_nil) (fun _ _ _ _ _ => (pe_tup (pa_cons (pv 4) (pa_cons pe_bl pa_nil))))))) pss_nil) (pss_one (ps_ret (pe_lc (own := [("k", 4)]) (g := gName 4) (tt := tYes) (te := tTup (tCons (tVar 4) (tCons (tC (.bl false)) (tNil)))) rfl sc_steps_of.nd (pi_range3 rfl B.range (pa_cons (pe_op op_sub (pv 2) pe_int) (pa_cons (pe_op op_sub (pv 3) pe_int) (pa_cons (pe_un un_neg pe_int) pa_nil)))) (blkOk_by (N := n_steps_of) (sc := defScope s_steps_of) (by decide +kernel)) (fun _ _ _ _ _ => (pg_name (i := 4) sc_steps_of.nd rfl (.inl rfl))) (fun _ _ _ _ _ => pts_nil) (fun _ _ _ _ _ => (pe_tup (pa_cons (pv 4) (pa_cons pe_bl pa_nil))))))))), fun as Q h => ?_⟩
  try dsimp only [cxOf]
  obtain ⟨nm, i, j, rfl, ⟨i0, i7, j0, j7⟩, q⟩ := h
  refine s_seq (s_asg (own := [1, 2, 3]) (Ev.w (ev_v rfl) ⟨_, rfl, g_tup rfl (g_cons (g_name (by decide) (g_cons (g_name (by decide) (g_cons (g_name (by decide) (g_nil ?_)))))))⟩))
  unfold stepsL at q
  refine s_seq (s_ite (ev_test (ev_op (ev_v rfl) (ev_v rfl) d_ib)) (fun hc => s_ret (Ev.w (ev_lc (i_rng2 (ev_cons (ev_v rfl) (ev_cons (ev_v rfl) ev_nil)) (⟨by omega, by omega, by omega, by omega⟩)) (by rw [List.length_range]; omega) (fun x hx N hN => (g_name (by decide) hN)) (fun x hx => ev_yes) (fun x hx hp => (ev_tup (ev_cons (ev_v rfl) (ev_cons ev_bl ev_nil)) rfl (Nat.le_of_ble_eq_true rfl))) (fun x hx hp => rfl)) ⟨_, rfl, ?_⟩)) (fun hc => s_next ?_))
  · rw [if_pos (of_decide_eq_true hc), List.map_map] at q
    rw [filt]
    exact q
  · refine s_ret (Ev.w (ev_lc (i_rngN (ev_cons (ev_op (ev_v rfl) ev_int d_ii) (ev_cons (ev_op (ev_v rfl) ev_int d_ii) (ev_cons (ev_un ev_int d_neg) ev_nil))) (⟨by omega, by omega, by omega, by omega⟩)) (by rw [List.length_range]; omega) (fun x hx N hN => (g_name (by decide) hN)) (fun x hx => ev_yes) (fun x hx hp => (ev_tup (ev_cons (ev_v rfl) (ev_cons ev_bl ev_nil)) rfl (Nat.le_of_ble_eq_true rfl))) (fun x hx hp => rfl)) ⟨_, rfl, ?_⟩)
    rw [if_neg (of_decide_eq_false hc), List.map_map] at q
    rw [filt]
    have e1 : (i - 1 - (j - 1)).toNat = (i - j).toNat := by omega
    rw [e1]
    have e2 : (fun x : Nat => PyData.tuple [.int (i - 1 + (x : Nat) * (-1)), .bool false]) = stepD ∘ fun m : Nat => (i - 1 - (m : Nat), false) := by
      funext x
      show PyData.tuple [.int (i - 1 + (x : Nat) * (-1)), .bool false] = PyData.tuple [.int (i - 1 - (x : Nat)), .bool false]
      have : i - 1 + ((x : Nat) : Int) * (-1) = i - 1 - ((x : Nat) : Int) := by omega
      rw [this]
    rw [e2]
    exact q
end
end Pb

namespace Pb
open PySem PySem.Spec PyProof.Rows L2 TL
theorem ev_tup3 {K : PySem.W.Frag} {od : Md} {Γ : List Sl} {a b c : TE} {x y z : PyData} (ha : Ev K od a Γ (.da x)) (hb : Ev K od b Γ (.da y)) (hc : Ev K od c Γ (.da z)) : Ev K od (tTup (tCons a (tCons b (tCons c tNil)))) Γ (.da (.tuple [x, y, z])) := ev_tup (ev_cons ha (ev_cons hb (ev_cons hc ev_nil))) rfl (Nat.le_of_ble_eq_true rfl)
theorem leg_rideT : PyData.eqv (legD .ride) rideD = true := by decide +kernel
theorem turn_if (l : Lg) (h : LgOk l) : (if PyData.eqv (legD l) rideD = true then legD l else legD (turnL l)) = legD (turnL l) := by
  cases l with
  | ride =>
    rw [if_pos leg_rideT]
    rfl
  | leg n i j =>
    rw [leg_ride, if_neg Bool.false_ne_true]
section
variable {P : Program} {w : World} {K : PySem.W.Frag} {mg : Str → Option Value} {base : Heap}
theorem kn_turned (D : Df K mg "turned" s_turned) (B : BG mg) (gRide : mg "RIDE" = some (.ref (He.ga K "RIDE"))) (hRide : ∀ F H, Dk K F H (.ref (He.ga K "RIDE")) rideD) : Kn P w K mg base "turned" 1 p_turned (spD K tr_turned) := by
  refine D.knD sc_turned (fun _ _ _ _ _ _ us hl => match us, hl with | [_], _ => rfl) (fun as Q h => by obtain ⟨x, rfl, _⟩ := h; rfl) (fun f cdv A outer s H E gd hr => ?_)
  refine ⟨_, PSs.nox (pss_one (ps_ret (pe_callTy call_tuple_of rfl B.tuple bt_tuple (pa_cons (pe_lc (own := [("leg", 1)]) (g := gName 1) (tt := tYes) (te := tIf (tTest (tOp (rEqD K) (tVar 1) (tC (.ref (He.ga K "RIDE"))))) (tVar 1) (tTup (tCons (tOp (rIxT K) (tVar 1) (tC (.int 0))) (tCons (tOp (rIxT K) (tVar 1) (tC (.int 2))) (tCons (tOp (rIxT K) (tVar 1) (tC (.int 1))) (tNil)))))) rfl sc_turned.nd (pi_tup (pe_revT (pv 0))) (blkOk_by (N := n_turned) (sc := defScope s_turned) (by decide +kernel)) (fun _ _ _ _ _ => (pg_name (i := 1) sc_turned.nd rfl (.inl rfl))) (fun _ _ _ _ _ => pts_nil) (fun _ _ _ _ _ => (pe_ifExp (pt_cmpR (op_eqD hr.units) (pv 1) (pe_glob (v := .ref (He.ga K "RIDE")) rfl gRide rfl) (nomark _)) (pv 1) (pe_tup (pa_cons (pe_ix ix_tup (pv 1) pe_int (fun _ _ => rfl)) (pa_cons (pe_ix ix_tup (pv 1) pe_int (fun _ _ => rfl)) (pa_cons (pe_ix ix_tup (pv 1) pe_int (fun _ _ => rfl)) pa_nil))))))) pa_nil)))), fun as Q h => ?_⟩
  try dsimp only [cxOf]
  obtain ⟨ls, rfl, ⟨lo, ll⟩, q⟩ := h
  have lo' : ∀ x ∈ ls.reverse, LgOk x := fun x hx => lo x (List.mem_reverse.mp hx)
  refine s_ret (Ev.w (ev_cb (ev_cons (ev_lc (xs := ls.reverse) (enc := legD) (f := fun x => legD (turnL x)) (rr := fun x => .da (legD (turnL x))) (EvI.eq (i_tup (ev_revT (ev_v rfl))) (by rw [List.map_reverse])) (by rw [List.length_reverse]; omega) (fun x hx N hN => (g_name (by decide) hN)) (fun x hx => ev_yes) (fun x hx hp => ?_) (fun x hx hp => rfl)) ev_nil) (d_tuple rfl)) ⟨_, rfl, ?_⟩)
  · have hx1 := lo' x hx
    cases x with
    | ride => exact Ev.eq (ev_if (c := true) (y := .da .none) (EvT.eq (ev_test (ev_op (ev_v rfl) (ev_glob hRide) (d_eqD rfl rfl (ride_shp) (ride_shp)))) leg_rideT) (fun _ => ev_v rfl) (fun hc => nomatch hc)) rfl
    | leg n i j => exact Ev.eq (ev_if (c := false) (x := .da .none) (EvT.eq (ev_test (ev_op (ev_v rfl) (ev_glob hRide) (d_eqD rfl rfl (leg_shp hx1) (ride_shp)))) (leg_ride n i j)) (fun hc => nomatch hc) (fun _ => ev_tup3 (ev_op (ev_v rfl) ev_int (d_ixT rfl)) (ev_op (ev_v rfl) ev_int (d_ixT rfl)) (ev_op (ev_v rfl) ev_int (d_ixT rfl)))) rfl
  · rw [filt]
    unfold turnedL at q
    rw [List.map_map] at q
    exact q
end
end Pb

namespace Pb
open PySem PySem.Spec PyProof.Rows L2 TL
/-! ### the program's: how far legs are, what they pass -/
abbrev s_measure : Stmt := top 13
abbrev n_measure : List Str := ["section", "leg", "length", "climb", "fall", "k", "forth", "far", "up", "down"]
abbrev p_measure : List Str := ["section", "leg"]
theorem sc_measure : FnScope n_measure p_measure (defScope s_measure) := ⟨rfl, rfl, rfl, by decide +kernel, rfl, by decide +kernel, by decide +kernel⟩
abbrev s_passed : Stmt := top 21
abbrev n_passed : List Str := ["book", "legs", "closed", "leg", "k", "forth"]
abbrev p_passed : List Str := ["book", "legs", "closed"]
theorem sc_passed : FnScope n_passed p_passed (defScope s_passed) := ⟨rfl, rfl, rfl, by decide +kernel, rfl, by decide +kernel, by decide +kernel⟩
abbrev s_sums_of : Stmt := top 22
abbrev n_sums_of : List Str := ["book", "legs", "closed", "found", "length", "climb", "fall", "leg", "one"]
abbrev p_sums_of : List Str := ["book", "legs", "closed"]
theorem sc_sums_of : FnScope n_sums_of p_sums_of (defScope s_sums_of) := ⟨rfl, rfl, rfl, by decide +kernel, rfl, by decide +kernel, by decide +kernel⟩
def addM (s : Sec) (a : Tri) (p : Int × Bool) : Tri := (a.1 + (s.ts.getD p.1.toNat (0, 0, 0)).1, a.2.1 + (if p.2 = true then (s.ts.getD p.1.toNat (0, 0, 0)).2.1 else (s.ts.getD p.1.toNat (0, 0, 0)).2.2), a.2.2 + (if p.2 = true then (s.ts.getD p.1.toNat (0, 0, 0)).2.2 else (s.ts.getD p.1.toNat (0, 0, 0)).2.1))
def measL (s : Sec) (st : List (Int × Bool)) : Tri := st.foldl (addM s) (0, 0, 0)
def mG (ss : List Sec) (l : Lg) : Tri := match secFor ss l none with
  | some s => measL s (stepsG l)
  | none => (0, 0, 0)
def psD (q : Str × Int × Bool) : PyData := .tuple [.str q.1, .int q.2.1, .bool q.2.2]
def sumsL (ss : List Sec) (ls : List Lg) (cl : Option (List Str)) : Tri := (((cntL ss ls cl).map fun l => (mG ss l).1).sum, ((cntL ss ls cl).map fun l => (mG ss l).2.1).sum, ((cntL ss ls cl).map fun l => (mG ss l).2.2).sum)
def tr_measure : Tr := fun as P => ∃ (s : Sec) (nm : Str) (i j : Int), as = [.da (secD s), .da (legD (.leg nm i j))] ∧ (SecK s ∧ (0 ≤ i ∧ i ≤ 7 ∧ 0 ≤ j ∧ j ≤ 7) ∧ hiI i j < (s.ms.length : Nat)) ∧ P (.da (triD (measL s (stepsL i j))))
def tr_passed : Tr := fun as P => ∃ (ss : List Sec) (r : D3) (ls : List Lg) (cl : Option (List Str)), as = [.da (bkD ss r), .da (.tuple (ls.map legD)), .da (clD cl)] ∧ ((∀ l ∈ ls, LgOk l) ∧ ls.length ≤ 1000) ∧ P (.fr ((passL ss ls cl).map psD))
def tr_sums_of : Tr := fun as P => ∃ (ss : List Sec) (r : D3) (ls : List Lg) (cl : Option (List Str)), as = [.da (bkD ss r), .da (.tuple (ls.map legD)), .da (clD cl)] ∧ (BookG ss r ∧ (ss.map Sec.nm).Nodup ∧ (∀ l ∈ ls, LgOk l) ∧ ls.length ≤ 1000) ∧ P (.da (triD (sumsL ss ls cl)))
theorem steps_in {i j : Int} (h0 : 0 ≤ i) (h1 : 0 ≤ j) : ∀ p ∈ stepsL i j, 0 ≤ p.1 ∧ p.1 < hiI i j := by
  intro p hp
  unfold stepsL at hp
  unfold hiI
  split at hp
  · obtain ⟨m, hm, rfl⟩ := List.mem_map.mp hp
    rw [List.mem_range] at hm
    rw [if_pos (by omega)]
    dsimp only
    omega
  · obtain ⟨m, hm, rfl⟩ := List.mem_map.mp hp
    rw [List.mem_range] at hm
    rw [if_neg (by omega)]
    dsimp only
    omega
theorem steps_len {i j : Int} (h0 : 0 ≤ i) (h1 : 0 ≤ j) (h2 : i ≤ 7) (h3 : j ≤ 7) : (stepsL i j).length ≤ 7 := by
  unfold stepsL
  split
  · rw [List.length_map, List.length_range]
    omega
  · rw [List.length_map, List.length_range]
    omega
theorem flat_len {α β : Type} {f : α → List β} {k : Nat} : ∀ {xs : List α}, (∀ x ∈ xs, (f x).length ≤ k) → (xs.flatMap f).length ≤ k * xs.length
  | [], _ => Nat.zero_le _
  | x :: r, h => by
    rw [List.flatMap_cons, List.length_append]
    have h1 := h x List.mem_cons_self
    have h2 := flat_len (xs := r) fun y hy => h y (List.mem_cons_of_mem _ hy)
    have e : k * (r.length + 1) = k * r.length + k := Nat.mul_succ ..
    show _ ≤ k * (r.length + 1)
    omega
theorem cnt_leg {ss : List Sec} {ls : List Lg} {cl : Option (List Str)} {l : Lg} (h : l ∈ cntL ss ls cl) : l ∈ ls ∧ ∃ nm i j s, l = .leg nm i j ∧ secFor ss (.leg nm i j) none = some s ∧ s ∈ ss ∧ s.nm = nm ∧ hiI i j < (s.ms.length : Nat) := by
  unfold cntL at h
  split at h
  · obtain ⟨h1, h2⟩ := List.mem_filter.mp h
    refine ⟨h1, ?_⟩
    cases l with
    | ride => cases h2
    | leg nm i j =>
      obtain ⟨s, hs⟩ := Option.isSome_iff_exists.mp h2
      have hf : ss.find? (secHas nm i j) = some s := by
        unfold secFor at hs
        dsimp only at hs
        split at hs
        · cases hs
        · exact hs
      have hh := List.find?_some hf
      unfold secHas at hh
      rw [Bool.and_eq_true, decide_eq_true_eq, decide_eq_true_eq] at hh
      exact ⟨nm, i, j, s, rfl, hf, List.mem_of_find?_eq_some hf, hh⟩
  · cases h
theorem cnt_le (ss : List Sec) (ls : List Lg) (cl : Option (List Str)) : (cntL ss ls cl).length ≤ ls.length := by
  unfold cntL
  split
  · exact List.length_filter_le _ _
  · exact Nat.zero_le _
section
variable {P : Program} {w : World} {K : PySem.W.Frag} {mg : Str → Option Value} {base : Heap}
theorem kn_measure (D : Df K mg "measure" s_measure) (B : BG mg) (k_reaches : Kn P w K mg base "reaches" 1 p_reaches (spD K tr_reaches)) (k_steps_of : Kn P w K mg base "steps_of" 1 p_steps_of (spD K tr_steps_of)) : Kn P w K mg base "measure" 2 p_measure (spD K tr_measure) := by
  refine D.knD sc_measure (fun _ _ _ _ _ _ us hl => match us, hl with | [_, _], _ => rfl) (fun as Q h => by obtain ⟨s, nm, i, j, rfl, _⟩ := h; rfl) (fun f cdv A outer s H E gd hr => ?_)
  refine ⟨_, PSs.nox (pss_cons (ps_if (pt_not (pt_val (pe_kn k_reaches gd (hr.mono (by decide)) rfl (pa_cons (pv 0) (pa_cons (pv 1) pa_nil))))) (pss_one (ps_ret pe_non)) pss_nil) (pss_cons (ps_asg3 pe_int (pg_name (i := 2) sc_measure.nd rfl (.inl rfl)) (pg_name (i := 3) sc_measure.nd rfl (.inl rfl)) (pg_name (i := 4) sc_measure.nd rfl (.inl rfl))) (pss_cons (ps_for PassesOwn.never rfl (pi_list (pe_kn k_steps_of gd (hr.mono (by decide)) rfl (pa_cons (pv 1) pa_nil))) (pg_tup rfl (pgs_cons (pg_name (i := 5) sc_measure.nd rfl (.inl rfl)) (pgs_cons (pg_name (i := 6) sc_measure.nd rfl (.inl rfl)) pgs_nil))) (pss_cons (ps_asg (pe_ix ix_tup (pe_ix ix_tup (pv 0) pe_int (fun _ _ => rfl)) (pv 5) (fun _ _ => rfl)) (pg_tup rfl (pgs_cons (pg_name (i := 7) sc_measure.nd rfl (.inl rfl)) (pgs_cons (pg_name (i := 8) sc_measure.nd rfl (.inl rfl)) (pgs_cons (pg_name (i := 9) sc_measure.nd rfl (.inl rfl)) pgs_nil))))) (pss_cons (ps_aug (i := 2) sc_measure.nd rfl (.inl rfl) (pv 7) ip_add) (pss_cons (ps_aug (i := 3) sc_measure.nd rfl (.inl rfl) (pe_ifExp (pt_val (pv 6)) (pv 8) (pv 9)) ip_add) (pss_one (ps_aug (i := 4) sc_measure.nd rfl (.inl rfl) (pe_ifExp (pt_val (pv 6)) (pv 9) (pv 8)) ip_add)))))) (pss_one (ps_ret (pe_tup (pa_cons (pv 2) (pa_cons (pv 3) (pa_cons (pv 4) pa_nil))))))))), fun as Q h => ?_⟩
  try dsimp only [cxOf]
  obtain ⟨s, nm, i, j, rfl, ⟨sk, ⟨i0, i7, j0, j7⟩, hh⟩, q⟩ := h
  refine s_seq (s_ite (c := false) (EvT.eq (ev_not (ev_tB (ev_call (ev_cons (ev_v rfl) (ev_cons (ev_v rfl) ev_nil)) rfl (fun _ hp => ⟨_, _, _, _, rfl, trivial, hp⟩)))) (by rw [decide_eq_true hh]; rfl)) (fun hc => nomatch hc) (fun _ => s_next ?_))
  refine s_seq (s_asg3 (own := [2, 3, 4]) (Ev.w ev_int ⟨_, rfl, g_name (by decide) (g_name (by decide) (g_name (by decide) ?_))⟩))
  refine s_seq (s_for (own := [5, 6]) (f_lstN (ev_call (ev_cons (ev_v rfl) ev_nil) rfl (fun _ hp => ⟨_, _, _, rfl, (⟨i0, i7, j0, j7⟩), hp⟩)) _ _ ⟨fun k Γ' _ => ∃ x5 x6 x7 x8 x9, Γ' = [.da (secD s), .da (legD (.leg nm i j)), .da (.int (measL s ((stepsL i j).take k)).1), .da (.int (measL s ((stepsL i j).take k)).2.1), .da (.int (measL s ((stepsL i j).take k)).2.2), x5, x6, x7, x8, x9], ⟨.no, .no, .no, .no, .no, rfl⟩, fun k d Γ' m hd hI => ?_, fun Γ' m hI => ?_⟩))
  · obtain ⟨x5, x6, x7, x8, x9, rfl⟩ := hI
    obtain ⟨⟨kk, fo⟩, hp, rfl⟩ := map_get hd
    obtain ⟨k0, k1⟩ := steps_in i0 j0 _ (List.mem_of_getElem? hp)
    dsimp only at k0 k1
    have hl1 := sk.l1
    have tk : measL s ((stepsL i j).take (k + 1)) = addM s (measL s ((stepsL i j).take k)) (kk, fo) := by
      unfold measL
      rw [List.take_add_one, hp, List.foldl_append]
      rfl
    generalize measL s ((stepsL i j).take k) = acc at tk
    have hix : atI (s.ts.map triD) kk = some (triD (s.ts.getD kk.toNat (0, 0, 0))) := by
      obtain ⟨n, rfl⟩ : ∃ n : Nat, kk = (n : Int) := ⟨_, (Int.toNat_of_nonneg k0).symm⟩
      have hn : n < s.ts.length := by omega
      refine atI_nat ?_
      rw [List.getElem?_map, List.getElem?_eq_getElem hn, Int.toNat_natCast, List.getD_eq_getElem?_getD, List.getElem?_eq_getElem hn]
      rfl
    refine g_tup rfl (g_cons (g_name (by decide) (g_cons (g_name (by decide) (g_nil ?_)))))
    refine s_seq (s_asg (own := [7, 8, 9]) (Ev.w (ev_op (ev_op (ev_v rfl) ev_int (d_ixT (d := .tuple (s.ts.map triD)) rfl)) (ev_v rfl) (d_ixT hix)) ⟨_, rfl, g_tup rfl (g_cons (g_name (by decide) (g_cons (g_name (by decide) (g_cons (g_name (by decide) (g_nil ?_)))))))⟩))
    refine s_seq (s_aug (i := 2) rfl (Ev.w (ev_v rfl) ⟨_, rfl, ?_⟩))
    refine s_seq (s_aug (i := 3) rfl (Ev.w (Ev.eq (b' := .da (.int (if fo = true then (s.ts.getD kk.toNat (0, 0, 0)).2.1 else (s.ts.getD kk.toNat (0, 0, 0)).2.2))) (ev_if (ev_tB (ev_v rfl)) (fun hc => (ev_v rfl)) (fun hc => (ev_v rfl))) (by cases fo <;> rfl)) ⟨_, rfl, ?_⟩))
    refine s_aug (i := 4) rfl (Ev.w (Ev.eq (b' := .da (.int (if fo = true then (s.ts.getD kk.toNat (0, 0, 0)).2.2 else (s.ts.getD kk.toNat (0, 0, 0)).2.1))) (ev_if (ev_tB (ev_v rfl)) (fun hc => (ev_v rfl)) (fun hc => (ev_v rfl))) (by cases fo <;> rfl)) ⟨_, rfl, ?_⟩)
    dsimp only
    rw [tk]
    exact ⟨_, _, _, _, _, rfl⟩
  · obtain ⟨x5, x6, x7, x8, x9, rfl⟩ := hI
    rw [List.length_map, List.take_length]
    exact s_ret (Ev.w (ev_tup (ev_cons (ev_v rfl) (ev_cons (ev_v rfl) (ev_cons (ev_v rfl) ev_nil))) rfl (Nat.le_of_ble_eq_true rfl)) ⟨_, rfl, q⟩)
theorem kn_passed (D : DfO K mg "passed" s_passed) (B : BG mg) (k_counted : KnO P w K mg base "counted" 6 p_counted (spD K tr_counted)) (k_steps_of : Kn P w K mg base "steps_of" 1 p_steps_of (spD K tr_steps_of)) : KnO P w K mg base "passed" 7 p_passed (spD K tr_passed) := by
  refine D.knD sc_passed 2 rfl (fun _ _ _ _ _ _ _ us its l1 l2 => match us, its, l1, l2 with | [_, _, _], [_], _, _ => ⟨_, rfl, rfl⟩) (fun _ _ _ _ _ _ _ us its l1 l2 => match us, its, l1, l2 with | [_, _], [_], _, _ => ⟨_, rfl, rfl⟩) (fun as Q h => by obtain ⟨ss, r, l, cl, rfl, _⟩ := h; rfl) (fun f cdv A outer s H E gd hr => ?_)
  refine ⟨_, PSs.nox (pss_one (ps_ret (pe_lc2 (own := [("leg", 3), ("k", 4), ("forth", 5)]) (vs1 := [4, 5]) (g := gName 3) (tt := tYes) (wi1 := iList K (tCall (spD K tr_steps_of) [] E0 (tCons (tVar 3) (tNil)))) (g1 := gTup K 2 (gCons (gName 4) (gCons (gName 5) (gNil)))) (tt1 := tYes) (te := tTup (tCons (tOp (rIxT K) (tVar 3) (tC (.int 0))) (tCons (tVar 4) (tCons (tVar 5) (tNil))))) rfl sc_passed.nd (pi_list (pe_knF k_counted gd (hr.mono (by decide)) rfl (pa_cons (pv 0) (pa_cons (pv 1) (pa_cons (pv 2) pa_nil))))) (blkOk_by (N := n_passed) (sc := defScope s_passed) (by decide +kernel)) (by decide) (fun _ _ _ _ _ => (pg_name (i := 3) sc_passed.nd rfl (.inl rfl))) (fun _ _ _ _ _ => pts_nil) (fun _ _ _ _ _ => (pi_list (pe_kn k_steps_of gd (hr.mono (by decide)) rfl (pa_cons (pv 3) pa_nil)))) (fun _ _ _ _ _ => (pg_tup rfl (pgs_cons (pg_name (i := 4) sc_passed.nd rfl (.inl rfl)) (pgs_cons (pg_name (i := 5) sc_passed.nd rfl (.inl rfl)) pgs_nil)))) (fun _ _ _ _ _ => pts_nil) (fun _ _ _ _ _ => (pe_tup (pa_cons (pe_ix ix_tup (pv 3) pe_int (fun _ _ => rfl)) (pa_cons (pv 4) (pa_cons (pv 5) pa_nil)))))))), fun as Q h => ?_⟩
  try dsimp only [cxOf]
  obtain ⟨ss, r, ls, cl, rfl, ⟨lo, ll⟩, q⟩ := h
  have cle := cnt_le ss ls cl
  refine s_ret (Ev.w (ev_lc2 (xs := cntL ss ls cl) (enc := legD) (ys := stepsG) (enc1 := stepD) (f := fun l p => .tuple [.str (nmG l), .int p.1, .bool p.2]) (rr := fun l p => .da (.tuple [.str (nmG l), .int p.1, .bool p.2])) (i_lst (ev_call (ev_cons (ev_v rfl) (ev_cons (ev_v rfl) (ev_cons (ev_v rfl) ev_nil))) rfl (fun _ hp => ⟨_, _, _, _, rfl, (⟨lo, ll⟩), hp⟩)) rfl) ?_ (fun x hx N hN => g_name (by decide) hN) (fun x hx j h => lst_da h) (fun x hx => j_lstN ?_) (fun x hx y hy N hN => g_tup rfl (g_cons (g_name (by decide) (g_cons (g_name (by decide) (g_nil hN)))))) (fun x hx y hy => ?_) (fun x hx y hy => rfl)) ⟨_, rfl, ?_⟩)
  · refine Nat.le_trans (flat_len (k := 7) fun x hx => ?_) (by omega)
    obtain ⟨h1, nm, i, j, s, rfl, _⟩ := cnt_leg hx
    have := lo _ h1
    exact steps_len this.2.1 this.2.2.2.1 this.2.2.1 this.2.2.2.2
  · obtain ⟨h1, nm, i, j, s, rfl, _⟩ := cnt_leg hx
    exact (ev_call (ev_cons (ev_v rfl) ev_nil) rfl (fun _ hp => ⟨_, _, _, rfl, ((lo _ h1).2), hp⟩))
  · obtain ⟨h1, nm, i, j, s, rfl, _⟩ := cnt_leg hx
    exact ev_tup3 (ev_op (ev_v rfl) ev_int (d_ixT rfl)) (ev_v rfl) (ev_v rfl)
  · unfold passL at q
    rw [List.map_flatMap] at q
    have e : (fun l => (passG l).map psD) = fun l => (stepsG l).map fun p => PyData.tuple [.str (nmG l), .int p.1, .bool p.2] := by
      funext l
      unfold passG
      rw [List.map_map]
      rfl
    rw [e] at q
    exact q
theorem kn_sums_of (D : DfO K mg "sums_of" s_sums_of) (B : BG mg) (k_counted : KnO P w K mg base "counted" 6 p_counted (spD K tr_counted)) (k_section_of : Kn P w K mg base "section_of" 2 p_section_of (spD K tr_section_of)) (k_measure : Kn P w K mg base "measure" 2 p_measure (spD K tr_measure)) : KnO P w K mg base "sums_of" 7 p_sums_of (spD K tr_sums_of) := by
  refine D.knD sc_sums_of 2 rfl (fun _ _ _ _ _ _ _ us its l1 l2 => match us, its, l1, l2 with | [_, _, _], [_], _, _ => ⟨_, rfl, rfl⟩) (fun _ _ _ _ _ _ _ us its l1 l2 => match us, its, l1, l2 with | [_, _], [_], _, _ => ⟨_, rfl, rfl⟩) (fun as Q h => by obtain ⟨ss, r, l, cl, rfl, _⟩ := h; rfl) (fun f cdv A outer s H E gd hr => ?_)
  refine ⟨_, PSs.nox (pss_cons (ps_setLc (i := 3) (own := [("leg", 7)]) (g := gName 7) (tt := tYes) (te := tCall (spD K tr_measure) [] E0 (tCons (tCall (spD K tr_section_of) [] E0 (tCons (tVar 0) (tCons (tOp (rIxT K) (tVar 7) (tC (.int 0))) (tNil)))) (tCons (tVar 7) (tNil)))) rfl sc_sums_of.nd rfl rfl (sw_true rfl rfl rfl (by decide +kernel)) (pi_list (pe_knF k_counted gd (hr.mono (by decide)) rfl (pa_cons (pv 0) (pa_cons (pv 1) (pa_cons (pv 2) pa_nil))))) (blkOk_by (N := n_sums_of) (sc := defScope s_sums_of) (by decide +kernel)) (fun _ _ _ _ _ => (pg_name (i := 7) sc_sums_of.nd rfl (.inl rfl))) (fun _ _ _ _ _ => pts_nil) (fun _ _ _ _ _ => (pe_kn k_measure gd (hr.mono (by decide)) rfl (pa_cons (pe_kn k_section_of gd (hr.mono (by decide)) rfl (pa_cons (pv 0) (pa_cons (pe_ix ix_tup (pv 7) pe_int (fun _ _ => rfl)) pa_nil))) (pa_cons (pv 7) pa_nil))))) (pss_cons (ps_set (i := 4) sc_sums_of.nd rfl (.inl rfl) (pe_callB (cr_sum rfl) rfl B.sum bt_sum (pa_cons (pe_lc (own := [("one", 8)]) (g := gName 8) (tt := tYes) (te := tOp (rIxT K) (tVar 8) (tC (.int 0))) rfl sc_sums_of.nd (pi_list (pv 3)) (blkOk_by (N := n_sums_of) (sc := defScope s_sums_of) (by decide +kernel)) (fun _ _ _ _ _ => (pg_name (i := 8) sc_sums_of.nd rfl (.inl rfl))) (fun _ _ _ _ _ => pts_nil) (fun _ _ _ _ _ => (pe_ix ix_tup (pv 8) pe_int (fun _ _ => rfl)))) pa_nil))) (pss_cons (ps_set (i := 5) sc_sums_of.nd rfl (.inl rfl) (pe_callB (cr_sum rfl) rfl B.sum bt_sum (pa_cons (pe_lc (own := [("one", 8)]) (g := gName 8) (tt := tYes) (te := tOp (rIxT K) (tVar 8) (tC (.int 1))) rfl sc_sums_of.nd (pi_list (pv 3)) (blkOk_by (N := n_sums_of) (sc := defScope s_sums_of) (by decide +kernel)) (fun _ _ _ _ _ => (pg_name (i := 8) sc_sums_of.nd rfl (.inl rfl))) (fun _ _ _ _ _ => pts_nil) (fun _ _ _ _ _ => (pe_ix ix_tup (pv 8) pe_int (fun _ _ => rfl)))) pa_nil))) (pss_cons (ps_set (i := 6) sc_sums_of.nd rfl (.inl rfl) (pe_callB (cr_sum rfl) rfl B.sum bt_sum (pa_cons (pe_lc (own := [("one", 8)]) (g := gName 8) (tt := tYes) (te := tOp (rIxT K) (tVar 8) (tC (.int 2))) rfl sc_sums_of.nd (pi_list (pv 3)) (blkOk_by (N := n_sums_of) (sc := defScope s_sums_of) (by decide +kernel)) (fun _ _ _ _ _ => (pg_name (i := 8) sc_sums_of.nd rfl (.inl rfl))) (fun _ _ _ _ _ => pts_nil) (fun _ _ _ _ _ => (pe_ix ix_tup (pv 8) pe_int (fun _ _ => rfl)))) pa_nil))) (pss_one (ps_ret (pe_tup (pa_cons (pv 4) (pa_cons (pv 5) (pa_cons (pv 6) pa_nil)))))))))), fun as Q h => ?_⟩
  try dsimp only [cxOf]
  obtain ⟨ss, r, ls, cl, rfl, ⟨bg, nd, lo, ll⟩, q⟩ := h
  have cle := cnt_le ss ls cl
  refine s_seq (s_set (Ev.w (ev_lc (xs := cntL ss ls cl) (enc := legD) (f := fun x => triD (mG ss x)) (rr := fun x => .da (triD (mG ss x))) (i_lst (ev_call (ev_cons (ev_v rfl) (ev_cons (ev_v rfl) (ev_cons (ev_v rfl) ev_nil))) rfl (fun _ hp => ⟨_, _, _, _, rfl, (⟨lo, ll⟩), hp⟩)) rfl) (by omega) (fun x hx N hN => g_name (by decide) hN) (fun x hx => ev_yes) (fun x hx hp => ?_) (fun x hx hp => rfl)) ?_))
  · obtain ⟨h1, nm, i, j, s, rfl, hs, hm, hn, hh⟩ := cnt_leg hx
    have e : mG ss (.leg nm i j) = measL s (stepsL i j) := by
      unfold mG
      rw [hs]
      rfl
    rw [e]
    exact ev_call (ev_cons (ev_call (ev_cons (ev_v rfl) (ev_cons (ev_op (ev_v rfl) ev_int (d_ixT rfl)) ev_nil)) rfl (fun _ hp => ⟨ss, r, nm, s, rfl, ⟨nd, hm, hn, by rw [← hn]; exact (bg.ss s hm).nm⟩, hp⟩)) (ev_cons (ev_v rfl) ev_nil)) rfl (fun _ hp => ⟨s, nm, i, j, rfl, ⟨bg.ss s hm, (lo _ h1).2, hh⟩, hp⟩)
  rw [filt]
  have one : ∀ g : Tri → Int, ((cntL ss ls cl).map fun x => triD (mG ss x)) = (((cntL ss ls cl).map (mG ss)).map triD) := fun g => by rw [List.map_map]; rfl
  rw [one fun t => t.1]
  have ml : ((cntL ss ls cl).map (mG ss)).length ≤ 20000 := by
    rw [List.length_map]
    omega
  have q2 : Q (.da (triD (((((cntL ss ls cl).map (mG ss)).map fun t => t.1).sum, (((cntL ss ls cl).map (mG ss)).map fun t => t.2.1).sum, (((cntL ss ls cl).map (mG ss)).map fun t => t.2.2).sum) : Tri))) := by
    unfold sumsL at q
    rw [List.map_map, List.map_map, List.map_map]
    exact q
  generalize (cntL ss ls cl).map (mG ss) = ms at ml q2
  refine s_seq (s_set (Ev.w (ev_cb (ev_cons (ev_lc (i_lst (ev_v rfl) rfl) (ml) (fun x hx N hN => (g_name (by decide) hN)) (fun x hx => ev_yes) (fun x hx hp => (ev_op (ev_v rfl) ev_int (d_ixT rfl))) (fun x hx hp => rfl)) ev_nil) (d_sum (show some _ = some ((ms.map fun t => t.1).map PyData.int) by rw [filt, List.map_map]; rfl))) ?_))
  refine s_seq (s_set (Ev.w (ev_cb (ev_cons (ev_lc (i_lst (ev_v rfl) rfl) (ml) (fun x hx N hN => (g_name (by decide) hN)) (fun x hx => ev_yes) (fun x hx hp => (ev_op (ev_v rfl) ev_int (d_ixT rfl))) (fun x hx hp => rfl)) ev_nil) (d_sum (show some _ = some ((ms.map fun t => t.2.1).map PyData.int) by rw [filt, List.map_map]; rfl))) ?_))
  refine s_seq (s_set (Ev.w (ev_cb (ev_cons (ev_lc (i_lst (ev_v rfl) rfl) (ml) (fun x hx N hN => (g_name (by decide) hN)) (fun x hx => ev_yes) (fun x hx hp => (ev_op (ev_v rfl) ev_int (d_ixT rfl))) (fun x hx hp => rfl)) ev_nil) (d_sum (show some _ = some ((ms.map fun t => t.2.2).map PyData.int) by rw [filt, List.map_map]; rfl))) ?_))
  exact s_ret (Ev.w (ev_tup (ev_cons (ev_v rfl) (ev_cons (ev_v rfl) (ev_cons (ev_v rfl) ev_nil))) rfl (Nat.le_of_ble_eq_true rfl)) ⟨_, rfl, q2⟩)
end
end Pb

namespace Pb
open PySem PySem.Spec PyProof.Rows L2 TL
/-! ### the law's own look: marks, soundness, what counts -/
def marksOf (ss : List Sec) (l : Lg) (xs : List Str) : List Str := match secFor ss l (some xs) with
  | none => []
  | some s => s.ms
def tr_l_marks_of : Tr := fun as P => ∃ (ss : List Sec) (r : D3) (l : Lg) (xs : List Str), as = [.da (bkD ss r), .da (legD l), .da (.tuple (xs.map .str))] ∧ LgOk l ∧ P (.da (.tuple ((marksOf ss l xs).map .str)))
def tr_l_is_sound : Tr := fun as P => ∃ (ss : List Sec) (r : D3) (ls : List Lg) (xs : List Str), as = [.da (bkD ss r), .da (.tuple (ls.map legD)), .da (.tuple (xs.map .str))] ∧ (BookG ss r ∧ (∀ l ∈ ls, LgOk l) ∧ ls.length ≤ 1000) ∧ P (.da (.bool (soundL ss ls (some xs))))
def tr_l_counted : Tr := fun as P => ∃ (ss : List Sec) (r : D3) (ls : List Lg) (xs : List Str), as = [.da (bkD ss r), .da (.tuple (ls.map legD)), .da (.tuple (xs.map .str))] ∧ (BookG ss r ∧ (∀ l ∈ ls, LgOk l) ∧ ls.length ≤ 1000) ∧ P (.fr ((cntL ss ls (some xs)).map legD))
abbrev s_l_marks_of : Stmt := top 37
abbrev n_l_marks_of : List Str := ["_law_book_here", "_law_leg_here", "_law_closed", "_law_name", "_law_marks", "_law_rows"]
abbrev p_l_marks_of : List Str := ["_law_book_here", "_law_leg_here", "_law_closed"]
theorem sc_l_marks_of : FnScope n_l_marks_of p_l_marks_of (defScope s_l_marks_of) := ⟨rfl, rfl, rfl, by decide +kernel, rfl, by decide +kernel, by decide +kernel⟩
abbrev s_l_is_sound : Stmt := top 38
abbrev n_l_is_sound : List Str := ["_law_book_here", "_law_legs_here", "_law_closed", "_law_leg_here", "_law_other", "_law_here", "_law_there"]
abbrev p_l_is_sound : List Str := ["_law_book_here", "_law_legs_here", "_law_closed"]
theorem sc_l_is_sound : FnScope n_l_is_sound p_l_is_sound (defScope s_l_is_sound) := ⟨rfl, rfl, rfl, by decide +kernel, rfl, by decide +kernel, by decide +kernel⟩
abbrev s_l_counted : Stmt := top 39
abbrev n_l_counted : List Str := ["_law_book_here", "_law_legs_here", "_law_closed", "_law_sound", "_law_leg_here"]
abbrev p_l_counted : List Str := ["_law_book_here", "_law_legs_here", "_law_closed"]
theorem sc_l_counted : FnScope n_l_counted p_l_counted (defScope s_l_counted) := ⟨rfl, rfl, rfl, by decide +kernel, rfl, by decide +kernel, by decide +kernel⟩
def condL (nm : Str) (i j : Int) (xs : List Str) (s : Sec) : Bool := decide (s.nm = nm) && (!decide (s.nm ∈ xs) && decide (hiI i j < (s.ms.length : Nat)))
theorem condL_eq (nm : Str) (i j : Int) (xs : List Str) (s : Sec) : condL nm i j xs s = (!decide (nm ∈ xs) && secHas nm i j s) := by
  unfold condL secHas
  by_cases h : s.nm = nm
  · rw [h]
    cases decide (nm ∈ xs) <;> simp
  · simp [h]
theorem cutD_init {α : Type} (xs : List α) : cutD xs none (some (-1)) = xs.dropLast := by
  unfold cutD
  have e0 : HT.sIx xs.length 0 none = 0 := rfl
  have e1 : HT.sIx xs.length xs.length (some (-1)) = xs.length - 1 := by
    unfold HT.sIx
    simp
    omega
  rw [e0, e1, List.drop_zero, Nat.sub_zero, List.dropLast_eq_take]
theorem zip_init {α : Type} (xs : List α) : xs.dropLast.zip xs.tail = xs.zip xs.tail := by
  induction xs with
  | nil => rfl
  | cons x r ih =>
    cases r with
    | nil => rfl
    | cons y r =>
      show (x, y) :: (List.dropLast (y :: r)).zip r = (x, y) :: (y :: r).zip r
      rw [show (List.dropLast (y :: r)).zip r = (y :: r).zip r from ih]
section
variable {P : Program} {w : World} {K : PySem.W.Frag} {mg : Str → Option Value} {base : Heap}
theorem kn_l_marks_of (D : Df K mg "_law_marks_of" s_l_marks_of) (B : BW mg) : Kn P w K mg base "_law_marks_of" 1 p_l_marks_of (spD K tr_l_marks_of) := by
  refine D.knD sc_l_marks_of (fun _ _ _ _ _ _ us hl => match us, hl with | [_, _, _], _ => rfl) (fun as Q h => by obtain ⟨ss, r, l, xs, rfl, _⟩ := h; rfl) (fun f cdv A outer s H E gd hr => ?_)
  refine ⟨_, PSs.nox (pss_cons (ps_for PassesOwn.never rfl (pi_tup (pe_ix ix_tup (pv 0) pe_int (fun _ _ => rfl))) (pg_tup rfl (pgs_cons (pg_name (i := 3) sc_l_marks_of.nd rfl (.inl rfl)) (pgs_cons (pg_name (i := 4) sc_l_marks_of.nd rfl (.inl rfl)) (pgs_cons (pg_name (i := 5) sc_l_marks_of.nd rfl (.inl rfl)) pgs_nil)))) (pss_one (ps_if (PW.pt (pw_and (pt_cmpR op_eq (pe_callB call_len_seq rfl B.len PySem.boot_len (pa_cons (pv 1) pa_nil)) pe_int (nomark _)) (pw_and (pt_cmpR op_eq (pv 3) (pe_ix ix_tup (pv 1) pe_int (fun _ _ => rfl)) (nomark _)) (pw_and (pt_cmpR op_notIn_seq (pv 3) (pv 2) rfl) (pw_and1 (pt_cmpR op_lt (pe_callB (call_max2 rfl) rfl B.max bt_max (pa_cons (pe_ix ix_tup (pv 1) pe_int (fun _ _ => rfl)) (pa_cons (pe_ix ix_tup (pv 1) pe_int (fun _ _ => rfl)) pa_nil))) (pe_callB call_len_seq rfl B.len PySem.boot_len (pa_cons (pv 4) pa_nil)) (nomark _))))))) (pss_one (ps_ret (pv 4))) pss_nil))) (pss_one (ps_ret (pe_tup pa_nil)))), fun as Q h => ?_⟩
  try dsimp only [cxOf]
  obtain ⟨ss, r, l, xs, rfl, lo, q⟩ := h
  cases l with
  | ride =>
    refine s_seq (s_for (own := [3, 4, 5]) ((f_tup (ev_op (ev_v rfl) ev_int (d_ixT rfl))) _ _ ⟨fun k Γ' _ => ∃ x y z, Γ' = [.da (bkD ss r), .da (legD .ride), .da (.tuple (xs.map .str)), x, y, z], ⟨.no, .no, .no, rfl⟩, fun k d Γ' m hd hI => ?_, fun Γ' m hI => ?_⟩))
    · obtain ⟨x, y, z, rfl⟩ := hI
      obtain ⟨s, hs, rfl⟩ := map_get hd
      refine g_tup rfl (g_cons (g_name (by decide) (g_cons (g_name (by decide) (g_cons (g_name (by decide) (g_nil ?_)))))))
      exact s_ite (ev_and (b := false) (c := false) (ev_test (ev_op (ev_cb (ev_cons (ev_v (r := .da (.tuple [.str "ride"])) rfl) ev_nil) (d_len rfl)) ev_int d_eqI)) (fun hc => by cases hc)) (fun hc => by cases hc) (fun hc => s_next ⟨_, _, _, rfl⟩)
    · obtain ⟨x, y, z, rfl⟩ := hI
      exact s_ret (Ev.w (ev_tup ev_nil rfl (Nat.le_of_ble_eq_true rfl)) ⟨_, rfl, q⟩)
  | leg nm i j =>
    refine s_seq (s_for (own := [3, 4, 5]) ((f_tup (ev_op (ev_v rfl) ev_int (d_ixT rfl))) _ _ ⟨fun k Γ' _ => ∃ x y z, Γ' = [.da (bkD ss r), .da (legD (.leg nm i j)), .da (.tuple (xs.map .str)), x, y, z] ∧ ∀ s ∈ ss.take k, condL nm i j xs s = false, ⟨.no, .no, .no, rfl, fun s hs => nomatch hs⟩, fun k d Γ' m hd hI => ?_, fun Γ' m hI => ?_⟩))
    · obtain ⟨x, y, z, rfl, hno⟩ := hI
      obtain ⟨s, hs, rfl⟩ := map_get hd
      refine g_tup rfl (g_cons (g_name (by decide) (g_cons (g_name (by decide) (g_cons (g_name (by decide) (g_nil ?_)))))))
      refine s_ite (c := condL nm i j xs s) (EvT.eq (ev_and (ev_test (ev_op (ev_cb (ev_cons (ev_v rfl) ev_nil) (d_len rfl)) ev_int d_eqI)) (fun hc => (ev_and (ev_test (ev_op (ev_v rfl) (ev_op (ev_v rfl) ev_int (d_ixT rfl)) d_eqS)) (fun hc => (ev_and (ev_test (ev_op (ev_v rfl) (ev_v rfl) (d_ninS rfl))) (fun hc => (ev_test (ev_op (ev_cb (ev_cons (ev_op (ev_v rfl) ev_int (d_ixT rfl)) (ev_cons (ev_op (ev_v rfl) ev_int (d_ixT rfl)) ev_nil)) d_max2) (ev_cb (ev_cons (ev_v rfl) ev_nil) (d_len rfl)) d_ib)))))))) (by rw [List.length_map]; rfl)) (fun hc => s_ret (Ev.w (ev_v rfl) ⟨_, rfl, ?_⟩)) (fun hc => s_next ⟨_, _, _, rfl, take_snoc hs hno hc⟩)
      rw [condL_eq, Bool.and_eq_true, Bool.not_eq_true'] at hc
      have hno2 : ∀ t ∈ ss.take k, secHas nm i j t = false := fun t ht => by
        have := hno t ht
        rw [condL_eq, hc.1] at this
        simpa using this
      have e : secFor ss (.leg nm i j) (some xs) = some s := by
        unfold secFor
        show (if decide (nm ∈ xs) = true then none else _) = _
        rw [hc.1, if_neg Bool.false_ne_true]
        exact find_first hs hno2 hc.2
      unfold marksOf at q
      rw [e] at q
      exact q
    · obtain ⟨x, y, z, rfl, hno⟩ := hI
      rw [List.length_map, List.take_length] at hno
      refine s_ret (Ev.w (ev_tup ev_nil rfl (Nat.le_of_ble_eq_true rfl)) ⟨_, rfl, ?_⟩)
      have e : secFor ss (.leg nm i j) (some xs) = none := by
        unfold secFor
        show (if decide (nm ∈ xs) = true then none else _) = _
        by_cases hx : nm ∈ xs
        · rw [decide_eq_true hx, if_pos rfl]
        · rw [decide_eq_false hx, if_neg Bool.false_ne_true]
          refine find_no fun t ht => ?_
          have := hno t ht
          rw [condL_eq, decide_eq_false hx] at this
          simpa using this
      unfold marksOf at q
      rw [e] at q
      exact q
end
end Pb

namespace Pb
open PySem PySem.Spec PyProof.Rows L2 TL
theorem eqv_nilT (ds : List PyData) : PyData.eqv (.tuple ds) (.tuple []) = decide (ds = []) := by
  cases ds with
  | nil => rfl
  | cons a r => rfl
theorem nmsT_shp {ys : List Str} (h : ∀ y ∈ ys, Nm y) : SeqAt.shaped (.tuple (ys.map .str)) = true := (Ly.tup (LyA.map ys fun y hy => Ly.str (h y hy).sh)).shp (by decide)
theorem marks_nm {ss : List Sec} {r : D3} (bg : BookG ss r) (l : Lg) (xs : List Str) : ∀ y ∈ marksOf ss l xs, Nm y := by
  intro y hy
  unfold marksOf at hy
  cases l with
  | ride => exact nomatch hy
  | leg nm i j =>
    cases e : secFor ss (.leg nm i j) (some xs) with
    | none =>
      rw [e] at hy
      exact nomatch hy
    | some s =>
      rw [e] at hy
      have mem : s ∈ ss := by
        unfold secFor at e
        dsimp only at e
        split at e
        · cases e
        · exact List.mem_of_find?_eq_some e
      exact (bg.ss s mem).mn y hy
theorem marks_ne {ss : List Sec} {nm : Str} {i j : Int} {xs : List Str} {s : Sec} (e : secFor ss (.leg nm i j) (some xs) = some s) (i0 : 0 ≤ i) (j0 : 0 ≤ j) : marksOf ss (.leg nm i j) xs = s.ms ∧ i < (s.ms.length : Nat) ∧ j < (s.ms.length : Nat) ∧ s.ms ≠ [] := by
  have hh := secFor_has e
  unfold secHas at hh
  rw [Bool.and_eq_true, decide_eq_true_eq, decide_eq_true_eq] at hh
  obtain ⟨hi, hj⟩ := hi_le hh.2
  refine ⟨by unfold marksOf; rw [e], hi, hj, fun z => ?_⟩
  rw [z] at hi
  have : i < 0 := hi
  omega
theorem marks_some {ss : List Sec} {l : Lg} {xs : List Str} (h : marksOf ss l xs ≠ []) : ∃ s, secFor ss l (some xs) = some s := by
  unfold marksOf at h
  cases e : secFor ss l (some xs) with
  | none =>
    rw [e] at h
    exact absurd rfl h
  | some s => exact ⟨s, rfl⟩
theorem marks_nil {ss : List Sec} {l : Lg} {xs : List Str} (h : marksOf ss l xs = []) (lo : LgOk l) : secFor ss l (some xs) = none := by
  cases l with
  | ride => rfl
  | leg nm i j =>
    cases e : secFor ss (.leg nm i j) (some xs) with
    | none => rfl
    | some s =>
      obtain ⟨e1, _, _, e2⟩ := marks_ne e lo.2.1 lo.2.2.2.1
      exact absurd (e1.symm.trans h) e2
theorem marks_none {ss : List Sec} {l : Lg} {xs : List Str} (h : marksOf ss l xs = []) (lo : LgOk l) : endsOf ss l (some xs) = none := by
  cases l with
  | ride => rfl
  | leg nm i j =>
    unfold endsOf
    dsimp only
    rw [marks_nil h lo]
    rfl
section
variable {P : Program} {w : World} {K : PySem.W.Frag} {mg : Str → Option Value} {base : Heap}
theorem kn_l_is_sound (D : Df K mg "_law_is_sound" s_l_is_sound) (B : BW mg) (k_l_marks_of : Kn P w K mg base "_law_marks_of" 1 p_l_marks_of (spD K tr_l_marks_of)) : Kn P w K mg base "_law_is_sound" 2 p_l_is_sound (spD K tr_l_is_sound) := by
  refine D.knD sc_l_is_sound (fun _ _ _ _ _ _ us hl => match us, hl with | [_, _, _], _ => rfl) (fun as Q h => by obtain ⟨ss, r, l, xs, rfl, _⟩ := h; rfl) (fun f cdv A outer s H E gd hr => ?_)
  refine ⟨_, PSs.nox (pss_cons (ps_for PassesOwn.never rfl (pi_zipS rfl B.zip (pa_cons (pe_slice sl_tupA (pv 1) po_none (po_some (pe_un un_neg pe_int))) (pa_cons (pe_slice sl_tupA (pv 1) (po_some pe_int) po_none) pa_nil))) (pg_tup rfl (pgs_cons (pg_name (i := 3) sc_l_is_sound.nd rfl (.inl rfl)) (pgs_cons (pg_name (i := 4) sc_l_is_sound.nd rfl (.inl rfl)) pgs_nil))) (pss_cons (ps_par (i := 5) (j := 6) rfl sc_l_is_sound.nd rfl rfl (by decide) rfl rfl (pa_cons (pe_kn k_l_marks_of gd (hr.mono (by decide)) rfl (pa_cons (pv 0) (pa_cons (pv 3) (pa_cons (pv 2) pa_nil)))) (pa_cons (pe_kn k_l_marks_of gd (hr.mono (by decide)) rfl (pa_cons (pv 0) (pa_cons (pv 4) (pa_cons (pv 2) pa_nil)))) pa_nil)) (by rfl)) (pss_one (ps_if (PW.pt (pw_and (pt_cmpR (op_neD hr.units) (pv 5) (pe_tup pa_nil) (nomark _)) (pw_and (pt_cmpR (op_neD hr.units) (pv 6) (pe_tup pa_nil) (nomark _)) (pw_and1 (pt_cmpR op_ne (pe_ix ix_tup (pv 5) (pe_ix ix_tup (pv 3) pe_int (fun _ _ => rfl)) (fun _ _ => rfl)) (pe_ix ix_tup (pv 6) (pe_ix ix_tup (pv 4) pe_int (fun _ _ => rfl)) (fun _ _ => rfl)) (nomark _)))))) (pss_one (ps_ret pe_bl)) pss_nil)))) (pss_one (ps_ret pe_bl))), fun as Q h => ?_⟩
  try dsimp only [cxOf]
  obtain ⟨ss, r, ls, xs, rfl, ⟨bg, lo, ll⟩, q⟩ := h
  refine s_seq (s_for (own := [3, 4]) (f_zipS (ds := ls.dropLast.map legD) (es := ls.tail.map legD) (ev_cons (Ev.eq (ev_sl (ev_v rfl) ev_np (ev_pt (ev_un ev_int d_neg)) d_slA) (by rw [cutD_init, ← List.map_dropLast])) (ev_cons (Ev.eq (ev_sl (ev_v rfl) (ev_pt ev_int) ev_np d_slA) (by rw [cutD_tail, List.map_tail])) ev_nil)) (by rw [List.length_map, List.length_map, List.length_dropLast, List.length_tail]) _ _ ⟨fun k Γ' _ => ∃ x y z w, Γ' = [.da (bkD ss r), .da (.tuple (ls.map legD)), .da (.tuple (xs.map .str)), x, y, z, w] ∧ ∀ p ∈ (ls.zip ls.tail).take k, okPair (endsOf ss p.1 (some xs), endsOf ss p.2 (some xs)) = true, ⟨.no, .no, .no, .no, rfl, fun s hs => nomatch hs⟩, fun k d Γ' m hd hI => ?_, fun Γ' m hI => ?_⟩))
  · obtain ⟨x, y, z, w', rfl, hno⟩ := hI
    have hd' : ((ls.zip ls.tail).map fun p => PyData.tuple [legD p.1, legD p.2])[k]? = some d := by
      rw [← hd]
      unfold zipD
      rw [List.zip_map, zip_init, List.map_map]
      rfl
    obtain ⟨⟨a, b⟩, hp, rfl⟩ := map_get hd'
    have mem : (a, b) ∈ ls.zip ls.tail := List.mem_of_getElem? hp
    obtain ⟨ma, mb⟩ := List.of_mem_zip mem
    have oa := lo a ma
    have ob := lo b (List.mem_of_mem_tail mb)
    refine g_tup rfl (g_cons (g_name (by decide) (g_cons (g_name (by decide) (g_nil ?_)))))
    refine s_seq (s_par (by decide) ((ev_cons (ev_call (ev_cons (ev_v rfl) (ev_cons (ev_v rfl) (ev_cons (ev_v rfl) ev_nil))) rfl (fun _ hp => ⟨_, _, _, _, rfl, (oa), hp⟩)) (ev_cons (ev_call (ev_cons (ev_v rfl) (ev_cons (ev_v rfl) (ev_cons (ev_v rfl) ev_nil))) rfl (fun _ hp => ⟨_, _, _, _, rfl, (ob), hp⟩)) ev_nil)) _ _ ⟨_, _, rfl, ?_⟩))
    have na := marks_nm bg a xs
    have nb := marks_nm bg b xs
    have ea : PyData.eqv (.tuple ((marksOf ss a xs).map .str)) (.tuple []) = decide (marksOf ss a xs = []) := by
      rw [eqv_nilT]
      cases marksOf ss a xs <;> rfl
    have eb : PyData.eqv (.tuple ((marksOf ss b xs).map .str)) (.tuple []) = decide (marksOf ss b xs = []) := by
      rw [eqv_nilT]
      cases marksOf ss b xs <;> rfl
    by_cases hab : marksOf ss a xs ≠ [] ∧ marksOf ss b xs ≠ []
    · obtain ⟨h1, h2⟩ := hab
      cases a with
      | ride => exact absurd rfl h1
      | leg nma ia ja =>
        cases b with
        | ride => exact absurd rfl h2
        | leg nmb ib jb =>
          obtain ⟨sa, fa⟩ := marks_some h1
          obtain ⟨sb, fb⟩ := marks_some h2
          obtain ⟨ma1, ma2, ma3, _⟩ := marks_ne fa oa.2.1 oa.2.2.2.1
          obtain ⟨mb1, mb2, mb3, _⟩ := marks_ne fb ob.2.1 ob.2.2.2.1
          rw [ma1] at ea h1 na ⊢
          rw [mb1] at eb h2 nb ⊢
          refine s_ite (c := !decide (sa.ms.getD ja.toNat "" = sb.ms.getD ib.toNat "")) (EvT.eq (ev_and (ev_test (ev_op (ev_v rfl) (ev_tup ev_nil rfl (Nat.le_of_ble_eq_true rfl)) (d_neD rfl rfl (nmsT_shp na) (rfl)))) (fun hc => (ev_and (ev_test (ev_op (ev_v rfl) (ev_tup ev_nil rfl (Nat.le_of_ble_eq_true rfl)) (d_neD rfl rfl (nmsT_shp nb) (rfl)))) (fun hc => (ev_test (ev_op (ev_op (ev_v rfl) (ev_op (ev_v rfl) ev_int (d_ixT rfl)) (d_ixT (at_str oa.2.2.2.1 ma3))) (ev_op (ev_v rfl) (ev_op (ev_v rfl) ev_int (d_ixT rfl)) (d_ixT (at_str ob.2.1 mb2))) d_neS)))))) (by rw [ea, eb, decide_eq_false h1, decide_eq_false h2]; rfl)) (fun hc => s_ret (Ev.w ev_bl ⟨_, rfl, ?_⟩)) (fun hc => s_next ⟨_, _, _, _, rfl, take_snoc hp hno ?_⟩)
          · have hb : okPair (endsOf ss (.leg nma ia ja) (some xs), endsOf ss (.leg nmb ib jb) (some xs)) = false := by
              unfold endsOf
              dsimp only
              rw [fa, fb]
              show decide (_ = _) = false
              rw [Bool.not_eq_true'] at hc
              exact hc
            have : soundL ss ls (some xs) = false := by
              unfold soundL sound
              rw [← List.map_tail, List.zip_map, List.all_map, List.all_eq_false]
              exact ⟨_, mem, by show ¬ okPair _ = true; rw [show okPair (Prod.map (fun l => endsOf ss l (some xs)) (fun l => endsOf ss l (some xs)) (Lg.leg nma ia ja, Lg.leg nmb ib jb)) = false from hb]; exact Bool.false_ne_true⟩
            rw [this] at q
            exact q
          · show okPair (endsOf ss (.leg nma ia ja) (some xs), endsOf ss (.leg nmb ib jb) (some xs)) = true
            unfold endsOf
            dsimp only
            rw [fa, fb]
            show decide (_ = _) = true
            rw [Bool.not_eq_false'] at hc
            exact hc
    · by_cases h1 : marksOf ss a xs = []
      · refine s_ite (c := false) (ev_and (b := false) (c := false) (EvT.eq (ev_test (ev_op (ev_v rfl) (ev_tup ev_nil rfl (Nat.le_of_ble_eq_true rfl)) (d_neD rfl rfl (nmsT_shp na) rfl))) (by rw [ea, decide_eq_true h1]; rfl)) (fun hc => by cases hc)) (fun hc => by cases hc) (fun hc => s_next ⟨_, _, _, _, rfl, take_snoc hp hno ?_⟩)
        show okPair (endsOf ss a (some xs), endsOf ss b (some xs)) = true
        rw [marks_none h1 oa]
        rfl
      · have h2 : marksOf ss b xs = [] := Classical.byContradiction fun z => hab ⟨h1, z⟩
        refine s_ite (c := false) (ev_and (b := true) (c := false) (EvT.eq (ev_test (ev_op (ev_v rfl) (ev_tup ev_nil rfl (Nat.le_of_ble_eq_true rfl)) (d_neD rfl rfl (nmsT_shp na) rfl))) (by rw [ea, decide_eq_false h1]; rfl)) (fun _ => ev_and (b := false) (c := false) (EvT.eq (ev_test (ev_op (ev_v rfl) (ev_tup ev_nil rfl (Nat.le_of_ble_eq_true rfl)) (d_neD rfl rfl (nmsT_shp nb) rfl))) (by rw [eb, decide_eq_true h2]; rfl)) (fun hc => by cases hc))) (fun hc => by cases hc) (fun hc => s_next ⟨_, _, _, _, rfl, take_snoc hp hno ?_⟩)
        show okPair (endsOf ss a (some xs), endsOf ss b (some xs)) = true
        rw [marks_none h2 ob]
        cases endsOf ss a (some xs) <;> rfl
  · obtain ⟨x, y, z, w', rfl, hno⟩ := hI
    have ln : (zipD (ls.dropLast.map legD) (ls.tail.map legD)).length = (ls.zip ls.tail).length := by
      rw [zipD_len, List.length_map, List.length_map, ← zip_init, List.length_zip]
    rw [ln, List.take_length] at hno
    refine s_ret (Ev.w ev_bl ⟨_, rfl, ?_⟩)
    have : soundL ss ls (some xs) = true := by
      unfold soundL sound
      rw [← List.map_tail, List.zip_map, List.all_map, List.all_eq_true]
      exact hno
    rw [this] at q
    exact q
theorem kn_l_counted (D : Df K mg "_law_counted" s_l_counted) (B : BW mg) (k_l_marks_of : Kn P w K mg base "_law_marks_of" 1 p_l_marks_of (spD K tr_l_marks_of)) (k_l_is_sound : Kn P w K mg base "_law_is_sound" 2 p_l_is_sound (spD K tr_l_is_sound)) : Kn P w K mg base "_law_counted" 3 p_l_counted (spD K tr_l_counted) := by
  refine D.knD sc_l_counted (fun _ _ _ _ _ _ us hl => match us, hl with | [_, _, _], _ => rfl) (fun as Q h => by obtain ⟨ss, r, l, xs, rfl, _⟩ := h; rfl) (fun f cdv A outer s H E gd hr => ?_)
  refine ⟨_, PSs.nox (pss_cons (ps_set (i := 3) sc_l_counted.nd rfl (.inr rfl) (pe_kn k_l_is_sound gd (hr.mono (by decide)) rfl (pa_cons (pv 0) (pa_cons (pv 1) (pa_cons (pv 2) pa_nil))))) (pss_one (ps_ret (pe_lc (own := [("_law_leg_here", 4)]) (g := gName 4) (tt := tAnd (tB (tVar 3)) (tTest (tOp (rNeD K) (tCall (spD K tr_l_marks_of) [] E0 (tCons (tVar 0) (tCons (tVar 4) (tCons (tVar 2) (tNil))))) (tTup (tNil))))) (te := tVar 4) rfl sc_l_counted.nd (pi_tup (pv 1)) (blkOk_by (N := n_l_counted) (sc := defScope s_l_counted) (by decide +kernel)) (fun _ _ _ _ _ => (pg_name (i := 4) sc_l_counted.nd rfl (.inl rfl))) (fun _ _ _ _ _ => (pts_one (PW.pt (pw_and (pt_val (pv 3)) (pw_and1 (pt_cmpR (op_neD hr.units) (pe_kn k_l_marks_of gd (hr.mono (by decide)) rfl (pa_cons (pv 0) (pa_cons (pv 4) (pa_cons (pv 2) pa_nil)))) (pe_tup pa_nil) (nomark _))))))) (fun _ _ _ _ _ => (pv 4)))))), fun as Q h => ?_⟩
  try dsimp only [cxOf]
  obtain ⟨ss, r, ls, xs, rfl, ⟨bg, lo, ll⟩, q⟩ := h
  refine s_seq (s_set (Ev.w (ev_call (ev_cons (ev_v rfl) (ev_cons (ev_v rfl) (ev_cons (ev_v rfl) ev_nil))) rfl (fun _ hp => ⟨_, _, _, _, rfl, (⟨bg, lo, ll⟩), hp⟩)) ?_))
  refine s_ret (Ev.w (ev_lc (i_tup (ev_v rfl)) (by omega) (fun x hx N hN => (g_name (by decide) hN)) (fun x hx => (ev_and (ev_tB (ev_v rfl)) (fun hc => (ev_test (ev_op (ev_call (ev_cons (ev_v rfl) (ev_cons (ev_v rfl) (ev_cons (ev_v rfl) ev_nil))) rfl (fun _ hp => ⟨_, _, _, _, rfl, (lo x hx), hp⟩)) (ev_tup ev_nil rfl (Nat.le_of_ble_eq_true rfl)) (d_neD rfl rfl (nmsT_shp (marks_nm bg x xs)) (rfl))))))) (fun x hx hp => (ev_v rfl)) (fun x hx hp => rfl)) ⟨_, rfl, ?_⟩)
  unfold cntL at q
  have e : (ls.filter fun x => soundL ss ls (some xs) && !PyData.eqv (.tuple ((marksOf ss x xs).map .str)) (.tuple [])) = if soundL ss ls (some xs) = true then ls.filter fun l => (secFor ss l (some xs)).isSome else [] := by
    cases soundL ss ls (some xs) with
    | false =>
      rw [if_neg Bool.false_ne_true, List.filter_eq_nil_iff]
      intro x _
      exact Bool.false_ne_true
    | true =>
      rw [if_pos rfl]
      refine List.filter_congr fun x hx => ?_
      rw [eqv_nilT, Bool.true_and]
      cases e : secFor ss x (some xs) with
      | none =>
        have : marksOf ss x xs = [] := by
          unfold marksOf
          rw [e]
        rw [this]
        rfl
      | some s =>
        have hm : marksOf ss x xs ≠ [] := fun z => by
          rw [marks_nil z (lo x hx)] at e
          cases e
        cases em : marksOf ss x xs with
        | nil => exact absurd em hm
        | cons a r => rfl
  rw [e]
  exact q
end
end Pb

namespace Pb
open PySem PySem.Spec PyProof.Rows L2 TL
section
variable {K : PySem.W.Frag} {od : Md} {F B : Addr → Prop} {Γ : List Sl} {σ : L2.St} {H : Hp} {n m : Nat} {P : Po}
theorem w_andV {t u : TE} {Q : Rs → Nat → Prop} (h : wE K od t Γ n fun r m => ∃ b, r = .da (.bool b) ∧ if b = true then wE K od u Γ m Q else Q (.da (.bool false)) m) : wE K od (tAndV t u) Γ n Q := by
  intro F B σ H f g R k
  refine h F B σ H f g _ fun v H1 x m F1 e o1 a1 => ?_
  obtain ⟨b, rfl, e⟩ := e
  refine ⟨b, Dk.bl' a1, ?_⟩
  cases b with
  | true => exact iteT ((show wE K od u Γ m Q from e) F1 B σ H1 o1.f o1.g R fun v H2 r m' F2 q' o2 a2 => k v H2 r m' F2 q' (o1.trans o2) (a2.back o1.k o1.g))
  | false => exact iteF (k _ H1 _ m F1 e o1 (.bl false))
theorem avnl4 {a b c : PyData} (h1 : NoL a) (h2 : NoL b) (h3 : NoL c) : AvNL [.dw, .da a, .da b, .da c] := by
  intro x hx
  simp only [List.mem_cons, List.not_mem_nil, or_false] at hx
  rcases hx with rfl | rfl | rfl | rfl
  · exact .inl rfl
  · exact .inr ⟨_, rfl, h1⟩
  · exact .inr ⟨_, rfl, h2⟩
  · exact .inr ⟨_, rfl, h3⟩
/-- a list that no slot knows is changed -/
theorem Fits.out {a : Addr} {vs us : List V} (f : Fits K od F B Γ σ H) (e : H a = some (.lst vs)) (nf : ¬ F a) (nb : ¬ B a) (ns : ∀ j, LstS Γ j → σ[j]? ≠ some (some (.ref a))) : Fits K od F B Γ σ (upd H a (.lst us)) := by
  have keep : ∀ b : Addr, H b ≠ none → upd H a (.lst us) b ≠ none := fun b hb => by
    by_cases hba : b = a
    · rw [hba, upd_same]
      intro z
      cases z
    · rw [upd_ne hba]
      exact hb
  have lk : ∀ {b : Addr} {ds : List PyData}, b ≠ a → LK K F H b ds → LK K F (upd H a (.lst us)) b ds := fun {b ds} hb h => by
    obtain ⟨ws, eb, tb⟩ := h
    exact ⟨ws, by rw [upd_ne hb]; exact eb, tb.fk (fk_chg nf e)⟩
  refine ⟨f.len, fun j s v hs hv => ?_, f.sep, fun b hb => keep b (f.dom b hb), fun b hb => keep b (f.domF b hb), f.cel⟩
  have h := f.at_ j s v hs hv
  cases s with
  | no => trivial
  | da d =>
    obtain ⟨x, ex, t⟩ := h
    exact ⟨x, ex, t.fk (fk_chg nf e)⟩
  | own ds =>
    obtain ⟨b, eb, l, nfb, nbb⟩ := h
    exact ⟨b, eb, lk (fun z => ns j ⟨ds, .inl hs⟩ (by rw [hv, eb, z])) l, nfb, nbb⟩
  | ro ds =>
    obtain ⟨b, eb, l⟩ := h
    exact ⟨b, eb, lk (fun z => ns j ⟨ds, .inr hs⟩ (by rw [hv, eb, z])) l⟩
  | dw => exact h
/-- a list is told in a list, both are new; it is changed then -/
theorem s_told {i : Nat} {T : TrR} {ta : TA} {E : XK} {tt : TT} {tr rest : TS} {te : TE} {rs : List Rs} {b ad : PyData} {ds : List PyData} (ho : od ≠ none) (hi : i < Γ.length)
    (h : EvA K od ta Γ rs) (nl : AvNL (rs.map Rs.av)) (hT : ∀ Q : Rs → Nat → Prop, Q (.fr [b, .list ds]) m → T (rs.map Rs.av) n Q) (hd : ds.length < 30000)
    (ht : EvT K od tt (Γ.set i (.own [b, .list ds])) false) (he : Ev K od te (Γ.set i .no) (.da ad)) (hr : wS K od rest (Γ.set i .no) m P) :
    wS K od (tSeq (tAsg (tCall (spR K T) [] E ta) (gName i)) (tSeq (tIfS tt tr tNext) (tSeq (tDrop (tBM K "list" rAppend (tOp (rIxL K) (tVar i) (tC (.int 1))) (tCons te tNil))) (tSeq (tAsg (tC .non) (gSub (tOp (rIxL K) (tVar i) (tC (.int 1))) (tC (.int 0)) rSetL)) rest)))) Γ n P := by
  intro F B σ H f g D e
  refine h n (fun r m' => r = rs ∧ m' = n) ⟨rfl, rfl⟩ F B σ H f g _ fun vs H1 rs' m' F1 q o1 a1 => ?_
  obtain ⟨rfl, rfl⟩ := q
  cases od with
  | none => exact absurd rfl ho
  | some p =>
    show spR K T (vs ++ []) H1 _ E
    rw [List.append_nil]
    refine ⟨p, fun _ => False, _, _, _, (fun _ z => z.elim), o1.g, a1.av.noL nl, hT (fun r m' => r = .fr [b, .list ds] ∧ m' = m) ⟨rfl, rfl⟩, fun v H2 r n2 F2 hq gr dF2 kp d2 a => ?_⟩
    obtain ⟨rfl, rfl⟩ := hq
    obtain ⟨x, rfl, lk, nx, nfx⟩ := a
    have lk' := lk
    obtain ⟨ws, ex, tw⟩ := lk
    have k2 : Kx (some p) H1 H2 := kp
    have g2 : Gd (some p) n2 H2 := d2
    cases tw with
    | cons h1 t1 =>
    cases t1 with
    | cons h2 t2 =>
    cases t2
    rename_i vb vz
    obtain ⟨z, zs, rfl, ez, fz, tz⟩ := Dk.lst' h2
    have nz : H1 z = none := (gr.2 z fz).elim (fun q => q.elim) id
    have gr3 : Gr F1 H1 (fun a => F1 a ∨ F2 a) := ⟨fun _ q => .inl q, fun c q => q.elim .inl fun q => (gr.2 c q).elim (fun q => q.elim) .inr⟩
    have dm3 : ∀ c, (F1 c ∨ F2 c) → H2 c ≠ none := fun c q => q.elim (fun q => k2.some g2 (o1.f.domF c q)) (dF2 c)
    have f3 := o1.f.kg k2 o1.g g2 gr3 dm3
    have fown := f3.setR (i := i) (r := .fr [b, .list ds]) (v := .ref x) o1.f ⟨x, rfl, lk'.mono fun _ q => .inr q, nx, fun q => q.elim (fun q => o1.f.domF x q nx) nfx, fun q => o1.f.dom x q nx⟩
    have f2 := o1.f.kx k2 o1.g g2
    have fno : Fits K (some p) F1 B (Γ.set i .no) (σ.set i (some (.ref x))) H2 := f2.set trivial (fun _ _ z => by obtain ⟨_, z⟩ := z; cases z) (fun _ _ z => by obtain ⟨_, z⟩ := z; cases z)
    have ix : (σ.set i (some (V.ref x)))[i]? = some (some (.ref x)) := by
      rw [List.getElem?_set_self (by rw [← f.len]; exact hi)]
    refine ht n2 (fun c m' => c = false ∧ m' = n2) ⟨rfl, rfl⟩ _ B _ H2 fown g2 _ fun c H3 m3 F4 q o3 => ?_
    obtain ⟨rfl, rfl⟩ := q
    refine iteF ?_
    have f4 := fno.kx o3.k g2 o3.g
    have ex3 := o3.k.obj g2 ex (fun _ z => nomatch z)
    refine ⟨.ref x, ix, x, _, _, _, rfl, rfl, .of ex3, rfl, .inl ⟨rfl, _, .of (o3.k.obj g2 ez (fun _ z => nomatch z))⟩, ?_⟩
    refine he m3 (fun r m' => r = .da ad ∧ m' = m3) ⟨rfl, rfl⟩ F1 B _ H3 f4 o3.g _ fun v5 H5 r5 m5 F5 q5 o5 a5 => ?_
    obtain ⟨rfl, rfl⟩ := q5
    have k5 := o3.k.trans o5.k
    have ez5 := k5.obj g2 ez (fun _ z => nomatch z)
    refine ⟨z, zs, v5, rfl, rfl, ez5, by rw [tz.len]; exact len20k (by omega), ?_⟩
    have nf1z : ¬ F1 z := fun q => o1.f.domF z q nz
    have nfz : ¬ F5 z := o5.gr.out nf1z (by rw [o3.k.obj g2 ez (fun _ z => nomatch z)]; intro q; cases q)
    have nbz : ¬ B z := fun q => o1.f.dom z q nz
    have xz : x ≠ z := fun q => nfx (by rw [q]; exact fz)
    have ns : ∀ j, LstS (Γ.set i .no) j → (σ.set i (some (V.ref x)))[j]? ≠ some (some (.ref z)) := fun j hj ej => by
      by_cases hji : j = i
      · subst hji
        obtain ⟨es, q | q⟩ := hj
        · rw [List.getElem?_set_self hi] at q
          cases q
        · rw [List.getElem?_set_self hi] at q
          cases q
      · have hj' : LstS Γ j := by
          obtain ⟨es, q⟩ := hj
          rw [List.getElem?_set_ne (Ne.symm hji)] at q
          exact ⟨es, q⟩
        rw [List.getElem?_set_ne (Ne.symm hji)] at ej
        exact o1.f.lstAt hj' ej nz
    have f6 := o5.f.out (us := zs ++ [v5]) ez5 nfz nbz ns
    have g6 := o5.g.chg (o := .lst (zs ++ [v5])) o5.f nbz ez5
    have ez6 : upd H5 z (.lst (zs ++ [v5])) z = some (.lst (zs ++ [v5])) := upd_same
    have f7 := f6.out (us := (zs ++ [v5]).set 0 .non) ez6 nfz nbz ns
    have g7 := g6.chg (o := .lst ((zs ++ [v5]).set 0 .non)) f6 nbz ez6
    have ex6 : upd H5 z (.lst (zs ++ [v5])) x = some (.lst [vb, .ref z]) := by
      rw [upd_ne xz]
      exact o5.k.obj o3.g ex3 (fun _ z => nomatch z)
    have gb : GB F B F5 := (o1.gb f).trans (o5.gb f4)
    have pr : Pr (some p) F B H _ := ((((o1.k.pr g).trans (k2.pr o1.g)).trans (k5.pr g2)).trans (Pr.chg (us := zs ++ [v5]) gb.1 nfz nbz ez5)).trans (Pr.chg (us := (zs ++ [v5]).set 0 .non) gb.1 nfz nbz ez6)
    have i0 : ixN (zs ++ [v5]).length 0 = some 0 := by
      unfold ixN
      rw [List.length_append]
      rw [if_pos (by decide)]
      rw [if_pos (by show (0 : Int) < ((zs.length + 1 : Nat) : Int); omega)]
      rfl
    refine ⟨.ref x, ix, x, _, _, _, rfl, rfl, .of ex6, rfl, z, _, 0, 0, rfl, rfl, ez6, i0, ?_⟩
    exact hr F5 B _ _ f7 g7 D (e.go gb pr)
end
end Pb

namespace Pb
open PySem PySem.Spec PyProof.Rows L2 TL
/-! ### a list of lists of texts, all our own -/
structure NS (F B : Addr → Prop) (H : Hp) (a : Addr) (bs : List Addr) (mss : List (List Str)) : Prop where
  o : H a = some (.lst (bs.map V.ref))
  l : bs.length = mss.length
  i : ∀ (k : Nat) (b : Addr) (ms : List Str), bs[k]? = some b → mss[k]? = some ms → H b = some (.lst (ms.map V.str))
  nd : bs.Nodup
  na : a ∉ bs
  fa : ¬ F a ∧ ¬ B a
  fb : ∀ b ∈ bs, ¬ F b ∧ ¬ B b
section
variable {K : PySem.W.Frag} {F F' B : Addr → Prop} {H H' : Hp} {a : Addr} {bs : List Addr} {mss : List (List Str)}
theorem NS.get (h : NS F B H a bs mss) {k : Nat} {b : Addr} (e : bs[k]? = some b) : ∃ ms, mss[k]? = some ms ∧ H b = some (.lst (ms.map V.str)) := by
  have hk : k < bs.length := (List.getElem?_eq_some_iff.mp e).1
  have hk2 : k < mss.length := by rw [← h.l]; exact hk
  exact ⟨mss[k], List.getElem?_eq_getElem hk2, h.i k b _ e (List.getElem?_eq_getElem hk2)⟩
theorem NS.ne (h : NS F B H a bs mss) {b : Addr} (hb : b ∈ bs) : H b ≠ none := by
  obtain ⟨k, hk⟩ := List.mem_iff_getElem?.mp hb
  obtain ⟨ms, _, e⟩ := h.get hk
  rw [e]
  intro z
  cases z
theorem NS.same (h : NS F B H a bs mss) (s : Same H H') (gr : Gr F H F') : NS F' B H' a bs mss :=
  ⟨s _ _ h.o, h.l, fun k b ms e1 e2 => s _ _ (h.i k b ms e1 e2), h.nd, h.na, ⟨gr.out h.fa.1 (by rw [h.o]; intro z; cases z), h.fa.2⟩, fun b hb => ⟨gr.out (h.fb b hb).1 (h.ne hb), (h.fb b hb).2⟩⟩
/-- the last one grows -/
theorem NS.ext {ms ys : List Str} {b : Addr} (h : NS F B H a (bs ++ [b]) (mss ++ [ms])) : NS F B (upd H b (.lst (ms.map V.str ++ ys.map V.str))) a (bs ++ [b]) (mss ++ [ms ++ ys]) := by
  have ll : bs.length = mss.length := by
    have := h.l
    rw [List.length_append, List.length_append] at this
    exact Nat.succ.inj this
  have ab : a ≠ b := fun z => h.na (by rw [z]; exact List.mem_append_right _ List.mem_cons_self)
  refine ⟨by rw [upd_ne ab]; exact h.o, by rw [List.length_append, List.length_append, ll]; rfl, fun k c zs e1 e2 => ?_, h.nd, h.na, h.fa, h.fb⟩
  by_cases hk : k < bs.length
  · rw [List.getElem?_append_left hk] at e1
    rw [List.getElem?_append_left (by rw [← ll]; exact hk)] at e2
    have cb : c ≠ b := fun z => by
      have := h.nd
      rw [List.nodup_append] at this
      exact this.2.2 c (List.mem_of_getElem? e1) b List.mem_cons_self z
    rw [upd_ne cb]
    exact h.i k c zs (by rw [List.getElem?_append_left hk]; exact e1) (by rw [List.getElem?_append_left (by rw [← ll]; exact hk)]; exact e2)
  · have hk2 : k = bs.length := by
      have := (List.getElem?_eq_some_iff.mp e1).1
      rw [List.length_append] at this
      have e : [b].length = 1 := rfl
      omega
    subst hk2
    rw [List.getElem?_append_right (Nat.le_refl _), Nat.sub_self] at e1
    rw [ll, List.getElem?_append_right (Nat.le_refl _), Nat.sub_self] at e2
    cases e1
    cases e2
    rw [upd_same, List.map_append]
/-- a new one -/
theorem NS.app {ys : List Str} {c : Addr} (h : NS F B H a bs mss) (ec : H c = some (.lst (ys.map V.str))) (nc : c ∉ bs) (ca : c ≠ a) (fc : ¬ F c ∧ ¬ B c) : NS F B (upd H a (.lst (bs.map V.ref ++ [.ref c]))) a (bs ++ [c]) (mss ++ [ys]) := by
  refine ⟨by rw [upd_same, List.map_append]; rfl, by rw [List.length_append, List.length_append, h.l]; rfl, fun k b zs e1 e2 => ?_, ?_, ?_, h.fa, fun b hb => ?_⟩
  · by_cases hk : k < bs.length
    · rw [List.getElem?_append_left hk] at e1
      rw [List.getElem?_append_left (by rw [← h.l]; exact hk)] at e2
      have ba : b ≠ a := fun z => h.na (by rw [← z]; exact List.mem_of_getElem? e1)
      rw [upd_ne ba]
      exact h.i k b zs e1 e2
    · have hk2 : k = bs.length := by
        have := (List.getElem?_eq_some_iff.mp e1).1
        rw [List.length_append] at this
        have e : [c].length = 1 := rfl
        omega
      subst hk2
      rw [List.getElem?_append_right (Nat.le_refl _), Nat.sub_self] at e1
      rw [h.l, List.getElem?_append_right (Nat.le_refl _), Nat.sub_self] at e2
      cases e1
      cases e2
      rw [upd_ne ca]
      exact ec
  · rw [List.nodup_append]
    exact ⟨h.nd, by simp, fun x hx y hy e => nc (by rw [← List.mem_singleton.mp hy, ← e]; exact hx)⟩
  · intro z
    rcases List.mem_append.mp z with z | z
    · exact h.na z
    · exact ca (List.mem_singleton.mp z).symm
  · rcases List.mem_append.mp hb with z | z
    · exact h.fb b z
    · rw [List.mem_singleton.mp z]
      exact fc
/-- kept from now on -/
theorem NS.all (h : NS F B H a bs mss) : DkAll K (fun x => F x ∨ x ∈ bs) H (bs.map V.ref) (mss.map fun ms => .list (ms.map .str)) := by
  have go : ∀ (bs' : List Addr) (mss' : List (List Str)), bs'.length = mss'.length → (∀ b ∈ bs', b ∈ bs) → (∀ (k : Nat) (b : Addr) (ms : List Str), bs'[k]? = some b → mss'[k]? = some ms → H b = some (.lst (ms.map V.str))) → DkAll K (fun x => F x ∨ x ∈ bs) H (bs'.map V.ref) (mss'.map fun ms => .list (ms.map .str)) := by
    intro bs'
    induction bs' with
    | nil =>
      intro mss' l _ _
      cases mss' with
      | nil => exact .nil
      | cons m r => cases l
    | cons b r ih =>
      intro mss' l hm hh
      cases mss' with
      | nil => cases l
      | cons m q => exact .cons (.lst (hh 0 b m rfl rfl) (.inr (hm b List.mem_cons_self)) (dkStrs m)) (ih q (Nat.succ.inj l) (fun x hx => hm x (List.mem_cons_of_mem _ hx)) fun k b ms e1 e2 => hh (k + 1) b ms e1 e2)
  exact go bs mss h.l (fun _ z => z) h.i
theorem no_lst {Γ : List Sl} (h : ∀ s ∈ Γ, s = .no ∨ ∃ d, s = .da d) : ∀ j, ¬ LstS Γ j := by
  intro j hj
  obtain ⟨ds, e | e⟩ := hj
  · rcases h _ (List.mem_of_getElem? e) with z | ⟨d, z⟩ <;> cases z
  · rcases h _ (List.mem_of_getElem? e) with z | ⟨d, z⟩ <;> cases z
end
end Pb

namespace Pb
open PySem PySem.Spec PyProof.Rows L2 TL
/-! ### trails -/
abbrev s_marks_by : Stmt := top 23
abbrev n_marks_by : List Str := ["section", "leg", "marks", "k", "forth"]
abbrev p_marks_by : List Str := ["section", "leg"]
theorem sc_marks_by : FnScope n_marks_by p_marks_by (defScope s_marks_by) := ⟨rfl, rfl, rfl, by decide +kernel, rfl, by decide +kernel, by decide +kernel⟩
abbrev s_trails : Stmt := top 24
abbrev n_trails : List Str := ["book", "legs", "closed", "runs", "goes_on", "leg", "section"]
abbrev p_trails : List Str := ["book", "legs", "closed"]
theorem sc_trails : FnScope n_trails p_trails (defScope s_trails) := ⟨rfl, rfl, rfl, by decide +kernel, rfl, by decide +kernel, by decide +kernel⟩
def pathM (s : Sec) (i j : Int) : List Str := s.ms.getD i.toNat "" :: (stepsL i j).map fun p => s.ms.getD (if p.2 = true then p.1 + 1 else p.1).toNat ""
def pathG (ss : List Sec) (cl : Option (List Str)) (l : Lg) : List Str := match l, secFor ss l cl with
  | .leg _ i j, some s => pathM s i j
  | _, _ => []
def runM (ss : List Sec) (cl : Option (List Str)) : List Lg → List Str
  | [] => []
  | l :: r => pathG ss cl l ++ r.flatMap fun x => (pathG ss cl x).tail
def stG (p : Lg → Bool) (st : List (List Lg) × Option (List Lg)) (l : Lg) : List (List Lg) × Option (List Lg) := if p l = true then (st.1, some (st.2.getD [] ++ [l])) else (st.1 ++ st.2.toList, none)
def runsOf (st : List (List Lg) × Option (List Lg)) : List (List Lg) := st.1 ++ st.2.toList
def cntP (ss : List Sec) (cl : Option (List Str)) (l : Lg) : Bool := (secFor ss l cl).isSome
def grp (p : Lg → Bool) (ls : List Lg) : List (List Lg) := runsOf (ls.foldl (stG p) ([], none))
def trailL (ss : List Sec) (ls : List Lg) (cl : Option (List Str)) : List (List Str) := if soundL ss ls cl = true then (grp (cntP ss cl) ls).map (runM ss cl) else []
def wayD (ms : List Str) : PyData := .list (ms.map .str)
theorem set_same {α : Type} {σ : List α} {i : Nat} {x : α} (h : σ[i]? = some x) : σ.set i x = σ := by
  apply List.ext_getElem?
  intro j
  by_cases e : i = j
  · subst e
    rw [List.getElem?_set_self (List.getElem?_eq_some_iff.mp h).1, h]
  · rw [List.getElem?_set_ne e]
theorem runM_snoc {ss : List Sec} {cl : Option (List Str)} {r : List Lg} {l : Lg} (h : r ≠ []) : runM ss cl (r ++ [l]) = runM ss cl r ++ (pathG ss cl l).tail := by
  cases r with
  | nil => exact absurd rfl h
  | cons x r =>
    show pathG ss cl x ++ (r ++ [l]).flatMap _ = (pathG ss cl x ++ r.flatMap _) ++ _
    rw [List.flatMap_append, List.flatMap_cons, List.flatMap_nil, List.append_nil, List.append_assoc]
theorem stG_flat (p : Lg → Bool) (st : List (List Lg) × Option (List Lg)) (l : Lg) : (runsOf (stG p st l)).flatten = (runsOf st).flatten ++ (if p l = true then [l] else []) := by
  obtain ⟨A, c⟩ := st
  unfold stG runsOf
  cases h : p l with
  | true =>
    rw [if_pos rfl, if_pos rfl]
    cases c with
    | none => simp
    | some r => simp
  | false =>
    rw [if_neg Bool.false_ne_true, if_neg Bool.false_ne_true]
    cases c with
    | none => simp
    | some r => simp
theorem fold_flatG (p : Lg → Bool) : ∀ (xs : List Lg) (st : List (List Lg) × Option (List Lg)), (runsOf (xs.foldl (stG p) st)).flatten = (runsOf st).flatten ++ xs.filter p
  | [], st => by rw [List.foldl_nil, List.filter_nil, List.append_nil]
  | x :: r, st => by
    rw [List.foldl_cons, fold_flatG p r, stG_flat, List.filter_cons, List.append_assoc]
    cases p x <;> rfl
theorem stG_ne (p : Lg → Bool) {st : List (List Lg) × Option (List Lg)} {l : Lg} (h : ∀ r ∈ runsOf st, r ≠ []) : ∀ r ∈ runsOf (stG p st l), r ≠ [] := by
  obtain ⟨A, c⟩ := st
  unfold stG runsOf
  intro r hr
  split at hr
  · rcases List.mem_append.mp hr with z | z
    · exact h r (List.mem_append_left _ z)
    · have e : r = c.getD [] ++ [l] := List.mem_singleton.mp z
      rw [e]
      simp
  · rcases List.mem_append.mp hr with z | z
    · exact h r z
    · cases z
theorem fold_ne (p : Lg → Bool) : ∀ (xs : List Lg) (st : List (List Lg) × Option (List Lg)), (∀ r ∈ runsOf st, r ≠ []) → ∀ r ∈ runsOf (xs.foldl (stG p) st), r ≠ []
  | [], _, h => h
  | _ :: r, _, h => fold_ne p r _ (stG_ne p h)
theorem flat_in {α : Type} : ∀ {R : List (List α)} {r : List α}, r ∈ R → r.length ≤ R.flatten.length ∧ ∀ x ∈ r, x ∈ R.flatten
  | q :: R, r, h => by
    rw [List.flatten_cons, List.length_append]
    rcases List.mem_cons.mp h with rfl | h
    · exact ⟨Nat.le_add_right _ _, fun x hx => List.mem_append_left _ hx⟩
    · obtain ⟨h1, h2⟩ := flat_in h
      exact ⟨by omega, fun x hx => List.mem_append_right _ (h2 x hx)⟩
theorem flat_many {α : Type} : ∀ {R : List (List α)}, (∀ r ∈ R, r ≠ []) → R.length ≤ R.flatten.length
  | [], _ => Nat.le_refl _
  | q :: R, h => by
    rw [List.flatten_cons, List.length_append]
    have h1 := flat_many (R := R) fun r hr => h r (List.mem_cons_of_mem _ hr)
    have h2 : 0 < q.length := List.length_pos_iff.mpr (h q List.mem_cons_self)
    show R.length + 1 ≤ _
    omega
theorem runM_len {ss : List Sec} {cl : Option (List Str)} {r : List Lg} (h : ∀ x ∈ r, (pathG ss cl x).length ≤ 8) : (runM ss cl r).length ≤ 8 * r.length := by
  cases r with
  | nil => exact Nat.zero_le _
  | cons l r =>
    show (pathG ss cl l ++ r.flatMap _).length ≤ 8 * (r.length + 1)
    rw [List.length_append]
    have h1 := h l List.mem_cons_self
    have h2 := flat_len (k := 8) (xs := r) (f := fun x => (pathG ss cl x).tail) fun x hx => by
      rw [List.length_tail]
      have := h x (List.mem_cons_of_mem _ hx)
      omega
    omega
def tr_marks_by : Tr := fun as P => ∃ (s : Sec) (nm : Str) (i j : Int), as = [.da (secD s), .da (legD (.leg nm i j))] ∧ (SecK s ∧ (0 ≤ i ∧ i ≤ 7 ∧ 0 ≤ j ∧ j ≤ 7) ∧ hiI i j < (s.ms.length : Nat)) ∧ P (.fr ((pathM s i j).map .str))
def tr_trails : Tr := fun as P => ∃ (ss : List Sec) (r : D3) (ls : List Lg) (cl : Option (List Str)), as = [.da (bkD ss r), .da (.tuple (ls.map legD)), .da (clD cl)] ∧ (BookG ss r ∧ (∀ l ∈ ls, LgOk l) ∧ ls.length ≤ 1000) ∧ P (.fr ((trailL ss ls cl).map wayD))
theorem secFor_in {ss : List Sec} {cl : Option (List Str)} {nm : Str} {i j : Int} {s : Sec} (h : secFor ss (.leg nm i j) cl = some s) : s ∈ ss ∧ s.nm = nm ∧ hiI i j < (s.ms.length : Nat) := by
  unfold secFor at h
  dsimp only at h
  split at h
  · cases h
  · have h1 := List.find?_some h
    unfold secHas at h1
    rw [Bool.and_eq_true, decide_eq_true_eq, decide_eq_true_eq] at h1
    exact ⟨List.mem_of_find?_eq_some h, h1⟩
theorem path_len {s : Sec} {i j : Int} (h0 : 0 ≤ i) (h1 : 0 ≤ j) (h2 : i ≤ 7) (h3 : j ≤ 7) : (pathM s i j).length ≤ 8 := by
  unfold pathM
  show ((stepsL i j).map _).length + 1 ≤ 8
  rw [List.length_map]
  have := steps_len h0 h1 h2 h3
  omega
theorem pathG_len {ss : List Sec} {cl : Option (List Str)} {l : Lg} (h : LgOk l) : (pathG ss cl l).length ≤ 8 := by
  unfold pathG
  cases l with
  | ride => exact Nat.zero_le _
  | leg n i j =>
    cases secFor ss (.leg n i j) cl with
    | none => exact Nat.zero_le _
    | some s => exact path_len h.2.1 h.2.2.2.1 h.2.2.1 h.2.2.2.2
section
variable {P : Program} {w : World} {K : PySem.W.Frag} {mg : Str → Option Value} {base : Heap}
theorem kn_marks_by (D : Df K mg "marks_by" s_marks_by) (B : BG mg) (k_steps_of : Kn P w K mg base "steps_of" 1 p_steps_of (spD K tr_steps_of)) : Kn P w K mg base "marks_by" 2 p_marks_by (spD K tr_marks_by) := by
  refine D.knD sc_marks_by (fun _ _ _ _ _ _ us hl => match us, hl with | [_, _], _ => rfl) (fun as Q h => by obtain ⟨s, nm, i, j, rfl, _⟩ := h; rfl) (fun f cdv A outer s H E gd hr => ?_)
  refine ⟨_, PSs.nox (pss_cons (ps_set (i := 2) sc_marks_by.nd rfl (.inr rfl) (pe_ix ix_tup (pv 0) pe_int (fun _ _ => rfl))) (pss_one (ps_ret (pe_op op_catS (pe_lst (pa_cons (pe_ix ix_tup (pv 2) (pe_ix ix_tup (pv 1) pe_int (fun _ _ => rfl)) (fun _ _ => rfl)) pa_nil)) (pe_lc (own := [("k", 3), ("forth", 4)]) (g := gTup K 2 (gCons (gName 3) (gCons (gName 4) (gNil)))) (tt := tYes) (te := tIf (tB (tVar 4)) (tOp (rIxT K) (tVar 2) (tOp (rI0 fun i j => .int (i + j)) (tVar 3) (tC (.int 1)))) (tOp (rIxT K) (tVar 2) (tVar 3))) rfl sc_marks_by.nd (pi_list (pe_kn k_steps_of gd (hr.mono (by decide)) rfl (pa_cons (pv 1) pa_nil))) (blkOk_by (N := n_marks_by) (sc := defScope s_marks_by) (by decide +kernel)) (fun _ _ _ _ _ => (pg_tup rfl (pgs_cons (pg_name (i := 3) sc_marks_by.nd rfl (.inl rfl)) (pgs_cons (pg_name (i := 4) sc_marks_by.nd rfl (.inl rfl)) pgs_nil)))) (fun _ _ _ _ _ => pts_nil) (fun _ _ _ _ _ => (pe_ifExp (pt_val (pv 4)) (pe_ix ix_tup (pv 2) (pe_op op_add (pv 3) pe_int) (fun _ _ => rfl)) (pe_ix ix_tup (pv 2) (pv 3) (fun _ _ => rfl))))))))), fun as Q h => ?_⟩
  try dsimp only [cxOf]
  obtain ⟨s, nm, i, j, rfl, ⟨sk, ⟨i0, i7, j0, j7⟩, hh⟩, q⟩ := h
  obtain ⟨hi, hj⟩ := hi_le hh
  refine s_seq (s_set (Ev.w (ev_op (ev_v rfl) ev_int (d_ixT (d := .tuple (s.ms.map .str)) rfl)) ?_))
  refine s_ret (Ev.w (ev_op (ev_lst (ev_cons (ev_op (ev_v rfl) (ev_op (ev_v rfl) ev_int (d_ixT rfl)) (d_ixT (at_str i0 hi))) ev_nil) rfl (Nat.le_of_ble_eq_true rfl)) (ev_lc (xs := stepsL i j) (enc := stepD) (f := fun p => .str (s.ms.getD (if p.2 = true then p.1 + 1 else p.1).toNat "")) (rr := fun p => .da (.str (s.ms.getD (if p.2 = true then p.1 + 1 else p.1).toNat ""))) (i_lst (ev_call (ev_cons (ev_v rfl) ev_nil) rfl (fun _ hp => ⟨_, _, _, rfl, (⟨i0, i7, j0, j7⟩), hp⟩)) rfl) (by have := steps_len i0 j0 i7 j7; omega) (fun x hx N hN => g_tup rfl (g_cons (g_name (by decide) (g_cons (g_name (by decide) (g_nil hN)))))) (fun x hx => ev_yes) (fun x hx hp => ?_) (fun x hx hp => rfl)) (d_catL rfl rfl ?_)) ⟨_, rfl, ?_⟩)
  · obtain ⟨k, fo⟩ := x
    obtain ⟨k0, k1⟩ := steps_in i0 j0 _ hx
    dsimp only at k0 k1
    cases fo with
    | true => exact Ev.eq (ev_if (c := true) (y := .da .none) (ev_tB (ev_v rfl)) (fun _ => ev_op (ev_v rfl) (ev_op (ev_v rfl) ev_int d_ii) (d_ixT (at_str (by omega) (by omega)))) (fun hc => nomatch hc)) rfl
    | false => exact Ev.eq (ev_if (c := false) (x := .da .none) (ev_tB (ev_v rfl)) (fun hc => nomatch hc) (fun _ => ev_op (ev_v rfl) (ev_v rfl) (d_ixT (at_str (by omega) (by omega))))) rfl
  · rw [filt, List.length_map]
    have := steps_len i0 j0 i7 j7
    show 1 + _ ≤ 30000
    omega
  · rw [filt]
    unfold pathM at q
    rw [List.map_cons, List.map_map] at q
    exact q
theorem kn_trails (D : DfO K mg "trails" s_trails) (B : BG mg) (k_meets : KnO P w K mg base "meets" 5 p_meets (spD K tr_meets)) (k_section_for : Kn P w K mg base "section_for" 2 p_section_for (spD K tr_section_for)) (k_marks_by : Kn P w K mg base "marks_by" 2 p_marks_by (spD K tr_marks_by)) : KnO P w K mg base "trails" 6 p_trails (spD K tr_trails) := by
  refine D.knD sc_trails 2 rfl (fun _ _ _ _ _ _ _ us its l1 l2 => match us, its, l1, l2 with | [_, _, _], [_], _, _ => ⟨_, rfl, rfl⟩) (fun _ _ _ _ _ _ _ us its l1 l2 => match us, its, l1, l2 with | [_, _], [_], _, _ => ⟨_, rfl, rfl⟩) (fun as Q h => by obtain ⟨ss, r, l, cl, rfl, _⟩ := h; rfl) (fun f cdv A outer s H E gd hr => ?_)
  refine ⟨_, PSs.nox (pss_cons (ps_if (pt_not (pt_val (pe_knF k_meets gd (hr.mono (by decide)) rfl (pa_cons (pv 0) (pa_cons (pv 1) (pa_cons (pv 2) pa_nil)))))) (pss_one (ps_ret (pe_lst pa_nil))) pss_nil) (pss_cons (ps_set (i := 3) sc_trails.nd rfl (.inl rfl) (pe_lst pa_nil)) (pss_cons (ps_set (i := 4) sc_trails.nd rfl (.inl rfl) pe_bl) (pss_cons (ps_for PassesOwn.never rfl (pi_tup (pv 1)) (pg_name (i := 5) sc_trails.nd rfl (.inl rfl)) (pss_cons (ps_set (i := 6) sc_trails.nd rfl (.inl rfl) (pe_kn k_section_for gd (hr.mono (by decide)) rfl (pa_cons (pv 0) (pa_cons (pv 5) (pa_cons (pv 2) pa_nil))))) (pss_one (ps_if (pt_cmp (pc_isN (pv 6))) (pss_one (ps_set (i := 4) sc_trails.nd rfl (.inl rfl) pe_bl)) (pss_one (ps_if (pt_val (pv 4)) (pss_one (ps_expr (pe_bm PySem.F.plainAttrs_list PySem.F.slot_list_extend PySem.F.type_list_extend mt_extend (pe_ix ix_list (pv 3) (pe_un un_neg pe_int) (fun _ _ => rfl)) (pa_cons (pe_slice sl_list (pe_kn k_marks_by gd (hr.mono (by decide)) rfl (pa_cons (pv 6) (pa_cons (pv 5) pa_nil))) (po_some pe_int) po_none) pa_nil)))) (pss_cons (ps_expr (pe_bm PySem.F.plainAttrs_list PySem.F.slot_list_append PySem.F.type_list_append mt_append (pv 3) (pa_cons (pe_kn k_marks_by gd (hr.mono (by decide)) rfl (pa_cons (pv 6) (pa_cons (pv 5) pa_nil))) pa_nil))) (pss_one (ps_set (i := 4) sc_trails.nd rfl (.inl rfl) pe_bl))))))))) (pss_one (ps_ret (pv 3))))))), fun as Q h => ?_⟩
  try dsimp only [cxOf]
  obtain ⟨ss, r, ls, cl, rfl, ⟨bg, lo, ll⟩, q⟩ := h
  unfold trailL at q
  refine s_seq (s_ite (ev_not (ev_tB (ev_call (ev_cons (ev_v rfl) (ev_cons (ev_v rfl) (ev_cons (ev_v rfl) ev_nil))) rfl (fun _ hp => ⟨_, _, _, _, rfl, (⟨lo, ll⟩), hp⟩)))) (fun hc => s_ret (Ev.w (ev_lst ev_nil rfl (Nat.le_of_ble_eq_true rfl)) ⟨_, rfl, ?_⟩)) (fun hc => s_next ?_))
  · rw [Bool.not_eq_true'] at hc
    rw [hc] at q
    exact q
  rw [Bool.not_eq_false'] at hc
  rw [hc, if_pos rfl] at q
  refine s_seq (s_set (Ev.w (ev_lst ev_nil rfl (Nat.le_of_ble_eq_true rfl)) ?_))
  refine s_seq (s_set (Ev.w ev_bl ?_))
  have dat : ∀ (b : Bool) (x y : Sl), (x = .no ∨ ∃ d, x = .da d) → (y = .no ∨ ∃ d, y = .da d) → ∀ s ∈ ([.da (bkD ss r), .da (.tuple (ls.map legD)), .da (clD cl), .no, .da (.bool b), x, y] : List Sl), s = .no ∨ ∃ d, s = .da d := fun b x y hx hy s hs => by
    simp only [List.mem_cons, List.not_mem_nil, or_false] at hs
    rcases hs with rfl | rfl | rfl | rfl | rfl | rfl | rfl
    · exact .inr ⟨_, rfl⟩
    · exact .inr ⟨_, rfl⟩
    · exact .inr ⟨_, rfl⟩
    · exact .inl rfl
    · exact .inr ⟨_, rfl⟩
    · exact hx
    · exact hy
  intro F B' σ H f g D e
  show tFor _ _ _ _ σ H
  unfold tFor
  refine f_tup (ds := ls.map legD) (ev_v (i := 1) rfl) 0 (fun ds Γ1 n1 => ds = ls.map legD ∧ Γ1 = [.da (bkD ss r), .da (.tuple (ls.map legD)), .da (clD cl), .own [], .da (.bool false), .no, .no]) ⟨rfl, rfl⟩ F B' σ H f trivial _ fun J H1 ds Γ1 n1 F1 B1 hq gb1 k1 g1 hB f1 W => ?_
  obtain ⟨rfl, rfl⟩ := hq
  obtain ⟨v3, ev3, a, rfl, la, nfa, nba⟩ := f1.slot (i := 3) (s := .own []) rfl
  obtain ⟨vs3, ea, ta⟩ := la
  cases ta
  obtain ⟨G, Y, w, hG, hY⟩ := W
  have f0 : Fits K none F1 B1 [.da (bkD ss r), .da (.tuple (ls.map legD)), .da (clD cl), .no, .da (.bool false), .no, .no] σ H1 := by
    have := f1.setN (i := 3) (v := some (.ref a))
    rw [set_same ev3] at this
    exact this
  refine for_it w (fun i σ' H' => ∃ (st : List (List Lg) × Option (List Lg)) (x y : Sl) (F' : Addr → Prop) (bs : List Addr), st = (ls.take i).foldl (stG (cntP ss cl)) ([], none) ∧ (∀ r, st.2 = some r → r ≠ []) ∧ GB F1 B1 F' ∧ Fits K none F' B1 [.da (bkD ss r), .da (.tuple (ls.map legD)), .da (clD cl), .no, .da (.bool st.2.isSome), x, y] σ' H' ∧ Pr none F1 B1 H1 H' ∧ σ'[3]? = some (some (.ref a)) ∧ NS F' B1 H' a bs ((runsOf st).map (runM ss cl)) ∧ (x = .no ∨ ∃ d, x = .da d) ∧ (y = .no ∨ ∃ d, y = .da d)) ⟨([], none), .no, .no, F1, [], rfl, (fun _ z => nomatch z), GB.refl _ _, f0, Pr.refl _, ev3, ⟨ea, rfl, (fun k b ms z => nomatch z), List.nodup_nil, (fun z => nomatch z), ⟨nfa, nba⟩, (fun b z => nomatch z)⟩, .inl rfl, .inl rfl⟩ (fun i σ' H' _ z => ?_) (fun i x σ' Ha Hb hi z y => ?_) fun σ' H' z => ?_
  · obtain ⟨_, _, _, _, _, _, _, _, _, p, _⟩ := z
    exact hG H' p
  · obtain ⟨st, x5, y6, F2, bs, hst, hne, gb, ff, pr, h3, ns, hx5, hy6⟩ := z
    have hi2 : i < ls.length := by
      rw [List.length_map] at hi
      exact hi
    obtain ⟨s1, dx⟩ := hY i _ Ha x Hb (List.getElem?_eq_getElem hi) pr y
    rw [List.getElem_map] at dx
    have lk : LgOk ls[i] := lo _ (List.getElem_mem hi2)
    have tk : (ls.take (i + 1)).foldl (stG (cntP ss cl)) ([], none) = stG (cntP ss cl) st ls[i] := by
      rw [List.take_add_one, List.getElem?_eq_getElem hi2, List.foldl_append, hst]
      rfl
    generalize ls[i] = l at dx lk tk
    have fb := ff.kx (Same.kx (od := none) s1) (n := 0) (m := 0) trivial trivial
    have nsb := ns.same s1 (Gr.refl _ _)
    have prb : Pr none F1 B1 H1 Hb := pr.trans ((Same.kx (od := none) s1).pr (n := 0) trivial)
    refine g_name (Γ := [.da (bkD ss r), .da (.tuple (ls.map legD)), .da (clD cl), .no, .da (.bool st.2.isSome), x5, y6]) (N := fun Γ2 => Γ2 = [.da (bkD ss r), .da (.tuple (ls.map legD)), .da (clD cl), .no, .da (.bool st.2.isSome), .da (legD l), y6]) (own := [5]) (by decide) rfl F2 B1 x σ' Hb fb (dx.mono gb.1) _ fun σ2 Γ2 hΓ f2 w2 => ?_
    subst hΓ
    have h32 : σ2[3]? = some (some (.ref a)) := by
      have q1 := wipe_at (σ := σ2) (j := 3) (own := [5]) (by decide)
      have q2 := wipe_at (σ := σ') (j := 3) (own := [5]) (by decide)
      rw [← q1, w2, q2]
      exact h3
    have hsf : Ev K none (tCall (spD K tr_section_for) [] E0 (tCons (tVar 0) (tCons (tVar 5) (tCons (tVar 2) tNil)))) [.da (bkD ss r), .da (.tuple (ls.map legD)), .da (clD cl), .no, .da (.bool st.2.isSome), .da (legD l), y6] (.da (secO (secFor ss l cl))) := (ev_call (ev_cons (ev_v rfl) (ev_cons (ev_v rfl) (ev_cons (ev_v rfl) ev_nil))) rfl (fun _ hp => ⟨_, _, _, _, rfl, (lk), hp⟩))
    refine hsf 0 (fun r m => r = .da (secO (secFor ss l cl)) ∧ m = 0) ⟨rfl, rfl⟩ F2 B1 σ2 Hb f2 trivial _ fun v6 H6 r6 m6 F6 q6 o6 a6 => ?_
    obtain ⟨rfl, rfl⟩ := q6
    refine gName_go ?_
    dsimp only
    unfold tIfS
    have f6 := o6.f.setD (i := 6) a6
    have h36 : (σ2.set 6 (some v6))[3]? = some (some (.ref a)) := by
      rw [List.getElem?_set_ne (by decide)]
      exact h32
    have ns6 := nsb.same o6.k o6.gr
    have gb6 : GB F1 B1 F6 := gb.trans (o6.gb f2)
    have pr6 : Pr none F1 B1 H1 H6 := prb.trans ((o6.k.pr (F := F2) (B := B1) (n := 0) trivial).mono gb.1 fun _ z => z)
    cases hs : secFor ss l cl with
    | none =>
      rw [hs] at f6
      have ht : EvT K none (tB (tIsN (tVar 6))) [.da (bkD ss r), .da (.tuple (ls.map legD)), .da (clD cl), .no, .da (.bool st.2.isSome), .da (legD l), .da .none] true := EvT.eq (ev_tB (ev_isN (d := .none) (ev_v rfl))) rfl
      refine ht 0 (fun b m => b = true ∧ m = 0) ⟨rfl, rfl⟩ F6 B1 _ H6 f6 trivial _ fun b7 H7 m7 F7 q7 o7 => ?_
      obtain ⟨rfl, rfl⟩ := q7
      refine iteT ?_
      have es : stG (cntP ss cl) st l = (st.1 ++ st.2.toList, none) := by
        unfold stG cntP
        rw [hs, if_neg (by decide)]
      refine ⟨(st.1 ++ st.2.toList, none), .da (legD l), .da .none, F7, bs, by rw [tk, es], (fun _ z => nomatch z), gb6.trans (o7.gb f6), o7.f.setD (i := 4) (.bl false), pr6.trans ((o7.k.pr (F := F6) (B := B1) (n := 0) trivial).mono gb6.1 fun _ z => z), ?_, ?_, .inr ⟨_, rfl⟩, .inr ⟨_, rfl⟩⟩
      · rw [List.getElem?_set_ne (by decide)]
        exact h36
      · have := ns6.same o7.k o7.gr
        unfold runsOf at this ⊢
        rw [show ((st.1 ++ st.2.toList, none) : List (List Lg) × Option (List Lg)).1 ++ ((st.1 ++ st.2.toList, none) : List (List Lg) × Option (List Lg)).2.toList = st.1 ++ st.2.toList from List.append_nil _]
        exact this
    | some sc =>
      cases l with
      | ride => exact absurd hs (by intro z; cases z)
      | leg nm i0 j0 =>
        obtain ⟨smem, snm, shi⟩ := secFor_in hs
        obtain ⟨_, l0, l7, m0, m7⟩ := lk
        have sk := bg.ss sc smem
        rw [hs] at f6
        have ep : pathG ss cl (.leg nm i0 j0) = pathM sc i0 j0 := by
          unfold pathG
          rw [hs]
        have es : stG (cntP ss cl) st (.leg nm i0 j0) = (st.1, some (st.2.getD [] ++ [.leg nm i0 j0])) := by
          unfold stG cntP
          rw [hs]
          rfl
        have plen := path_len (s := sc) l0 m0 l7 m7
        have ht : EvT K none (tB (tIsN (tVar 6))) [.da (bkD ss r), .da (.tuple (ls.map legD)), .da (clD cl), .no, .da (.bool st.2.isSome), .da (legD (.leg nm i0 j0)), .da (secD sc)] false := EvT.eq (ev_tB (ev_isN (d := secD sc) (ev_v rfl))) rfl
        refine ht 0 (fun b m => b = false ∧ m = 0) ⟨rfl, rfl⟩ F6 B1 _ H6 f6 trivial _ fun b7 H7 m7' F7 q7 o7 => ?_
        obtain ⟨rfl, rfl⟩ := q7
        refine iteF ?_
        have f7 := o7.f
        have ns7 := ns6.same o7.k o7.gr
        have gb7 : GB F1 B1 F7 := gb6.trans (o7.gb f6)
        have pr7 : Pr none F1 B1 H1 H7 := pr6.trans ((o7.k.pr (F := F6) (B := B1) (n := 0) trivial).mono gb6.1 fun _ z => z)
        have hmb : ∀ b : Bool, Ev K none (tCall (spD K tr_marks_by) [] E0 (tCons (tVar 6) (tCons (tVar 5) tNil))) [.da (bkD ss r), .da (.tuple (ls.map legD)), .da (clD cl), .no, .da (.bool b), .da (legD (.leg nm i0 j0)), .da (secD sc)] (.fr ((pathM sc i0 j0).map .str)) := fun b => (ev_call (ev_cons (ev_v rfl) (ev_cons (ev_v rfl) ev_nil)) rfl (fun _ hp => ⟨_, _, _, _, rfl, (⟨sk, ⟨l0, l7, m0, m7⟩, shi⟩), hp⟩))
        have ht2 : EvT K none (tB (tVar 4)) [.da (bkD ss r), .da (.tuple (ls.map legD)), .da (clD cl), .no, .da (.bool st.2.isSome), .da (legD (.leg nm i0 j0)), .da (secD sc)] st.2.isSome := ev_tB (ev_v rfl)
        refine ht2 0 (fun b m => b = st.2.isSome ∧ m = 0) ⟨rfl, rfl⟩ F7 B1 _ H7 f7 trivial _ fun b8 H8 m8 F8 q8 o8 => ?_
        obtain ⟨rfl, rfl⟩ := q8
        have f8 := o8.f
        have ns8 := ns7.same o8.k o8.gr
        have gb8 : GB F1 B1 F8 := gb7.trans (o8.gb f7)
        have pr8 : Pr none F1 B1 H1 H8 := pr7.trans ((o8.k.pr (F := F7) (B := B1) (n := 0) trivial).mono gb7.1 fun _ z => z)
        cases hcur : st.2 with
        | some rr =>
          rw [hcur] at f8
          refine iteT ?_
          have er : (runsOf st).map (runM ss cl) = st.1.map (runM ss cl) ++ [runM ss cl rr] := by
            unfold runsOf
            rw [hcur, List.map_append]
            rfl
          rw [er] at ns8
          rcases List.eq_nil_or_concat bs with rfl | ⟨bs0, b, rfl⟩
          · have := ns8.l
            rw [List.length_append] at this
            cases this
          rw [List.concat_eq_append] at ns8
          have bl : bs0.length = (st.1.map (runM ss cl)).length := by
            have := ns8.l
            rw [List.length_append, List.length_append] at this
            exact Nat.succ.inj this
          have ib : H8 b = some (.lst ((runM ss cl rr).map V.str)) := ns8.i bs0.length b _ (by rw [List.getElem?_append_right (Nat.le_refl _), Nat.sub_self]; rfl) (by rw [bl, List.getElem?_append_right (Nat.le_refl _), Nat.sub_self]; rfl)
          have hte : Ev K none (tSl (rSlL K) (tCall (spD K tr_marks_by) [] E0 (tCons (tVar 6) (tCons (tVar 5) tNil))) (tPart (tC (.int 1))) tNoPart) [.da (bkD ss r), .da (.tuple (ls.map legD)), .da (clD cl), .no, .da (.bool (some rr).isSome), .da (legD (.leg nm i0 j0)), .da (secD sc)] (.fr ((pathM sc i0 j0).tail.map .str)) := Ev.eq (ev_sl (hmb _) (ev_pt ev_int) ev_np (d_slL rfl)) (by rw [cutD_tail, List.map_tail])
          refine ⟨.ref a, h36, 1, rfl, a, _, -1, .ref b, rfl, rfl, .of ns8.o, by rw [List.map_append]; exact at_last _ _, .inl ⟨rfl, _, .of ib⟩, ?_⟩
          refine hte 0 (fun r m => r = .fr ((pathM sc i0 j0).tail.map .str) ∧ m = 0) ⟨rfl, rfl⟩ F8 B1 _ H8 f8 trivial _ fun v9 H9 r9 m9 F9 q9 o9 a9 => ?_
          obtain ⟨rfl, rfl⟩ := q9
          obtain ⟨c, rfl, lc, nc, nfc, nbc⟩ := a9
          obtain ⟨us, ec, tc⟩ := lc
          have eus := DkAll.strs tc
          subst eus
          have ns9 := ns8.same o9.k o9.gr
          have ib9 := o9.k _ _ ib
          have gb9 : GB F1 B1 F9 := gb8.trans (o9.gb f8)
          have pr9 : Pr none F1 B1 H1 H9 := pr8.trans ((o9.k.pr (F := F8) (B := B1) (n := 0) trivial).mono gb8.1 fun _ z => z)
          obtain ⟨nfb, nbb⟩ := ns9.fb b (List.mem_append_right _ List.mem_cons_self)
          have rl : (runM ss cl rr).length ≤ 16000 := by
            have hf : (runsOf st).flatten = (ls.take i).filter (cntP ss cl) := by
              rw [hst, fold_flatG]
              rfl
            have hm : rr ∈ runsOf st := by
              unfold runsOf
              rw [hcur]
              exact List.mem_append_right _ List.mem_cons_self
            obtain ⟨h1, h2⟩ := flat_in hm
            rw [hf] at h1 h2
            have h3 := runM_len (ss := ss) (cl := cl) (r := rr) fun x hx => pathG_len (lo x (List.mem_of_mem_take (List.mem_filter.mp (h2 x hx)).1))
            have h4 := List.length_filter_le (cntP ss cl) (ls.take i)
            have h5 := List.length_take_le i ls
            omega
          refine ⟨b, c, _, _, rfl, rfl, ib9, ec, ?_, ?_⟩
          · rw [List.length_map, List.length_map, List.length_tail]
            exact Nat.le_of_lt (len20k (by omega))
          · refine ⟨(st.1, some (rr ++ [.leg nm i0 j0])), .da (legD (.leg nm i0 j0)), .da (secD sc), F9, bs0 ++ [b], by rw [tk, es, hcur]; rfl, fun r' e' => ?_, gb9, o9.f.out ib9 nfb nbb (fun j hj => absurd hj (no_lst (dat _ _ _ (.inr ⟨_, rfl⟩) (.inr ⟨_, rfl⟩)) j)), pr9.trans (Pr.chg gb9.1 nfb nbb ib9), h36, ?_, .inr ⟨_, rfl⟩, .inr ⟨_, rfl⟩⟩
            · cases e'
              intro z
              exact absurd z (by simp)
            · have ee : (runsOf (st.1, some (rr ++ [.leg nm i0 j0]))).map (runM ss cl) = st.1.map (runM ss cl) ++ [runM ss cl rr ++ (pathM sc i0 j0).tail] := by
                unfold runsOf
                rw [List.map_append]
                show _ ++ [runM ss cl (rr ++ [.leg nm i0 j0])] = _
                rw [runM_snoc (hne rr hcur), ep]
              rw [ee]
              exact ns9.ext
        | none =>
          rw [hcur] at f8
          refine iteF ?_
          refine ⟨.ref a, h36, .inl ⟨rfl, _, .of ns8.o⟩, ?_⟩
          refine hmb _ 0 (fun r m => r = .fr ((pathM sc i0 j0).map .str) ∧ m = 0) ⟨rfl, rfl⟩ F8 B1 _ H8 f8 trivial _ fun v9 H9 r9 m9 F9 q9 o9 a9 => ?_
          obtain ⟨rfl, rfl⟩ := q9
          obtain ⟨c, rfl, lc, nc, nfc, nbc⟩ := a9
          obtain ⟨us, ec, tc⟩ := lc
          have eus := DkAll.strs tc
          subst eus
          have ns9 := ns8.same o9.k o9.gr
          have gb9 : GB F1 B1 F9 := gb8.trans (o9.gb f8)
          have pr9 : Pr none F1 B1 H1 H9 := pr8.trans ((o9.k.pr (F := F8) (B := B1) (n := 0) trivial).mono gb8.1 fun _ z => z)
          have ca : c ≠ a := fun z => by
            rw [z, ns8.o] at nc
            cases nc
          have cb : c ∉ bs := fun z => ns8.ne z nc
          refine ⟨a, _, .ref c, rfl, rfl, ns9.o, ?_, ?_⟩
          · have hf : (runsOf st).flatten = (ls.take i).filter (cntP ss cl) := by
              rw [hst, fold_flatG]
              rfl
            have h1 : (runsOf st).length ≤ (runsOf st).flatten.length := flat_many (by rw [hst]; exact fold_ne _ _ _ fun r z => nomatch z)
            rw [hf] at h1
            have h4 := List.length_filter_le (cntP ss cl) (ls.take i)
            have h5 := List.length_take_le i ls
            rw [List.length_map, ns9.l, List.length_map]
            exact len20k (by omega)
          · refine ⟨(st.1, some [.leg nm i0 j0]), .da (legD (.leg nm i0 j0)), .da (secD sc), F9, bs ++ [c], by rw [tk, es, hcur]; rfl, fun r' e' => ?_, gb9, (o9.f.out ns9.o ns9.fa.1 ns9.fa.2 (fun j hj => absurd hj (no_lst (dat _ _ _ (.inr ⟨_, rfl⟩) (.inr ⟨_, rfl⟩)) j))).setD (i := 4) (.bl true), pr9.trans (Pr.chg gb9.1 ns9.fa.1 ns9.fa.2 ns9.o), ?_, ?_, .inr ⟨_, rfl⟩, .inr ⟨_, rfl⟩⟩
            · cases e'
              exact List.cons_ne_nil _ _
            · rw [List.getElem?_set_ne (by decide)]
              exact h36
            · have ee : (runsOf (st.1, some [.leg nm i0 j0])).map (runM ss cl) = (runsOf st).map (runM ss cl) ++ [pathM sc i0 j0] := by
                unfold runsOf
                rw [hcur, List.map_append, List.map_append]
                show _ ++ [runM ss cl [.leg nm i0 j0]] = (_ ++ []) ++ _
                rw [List.append_nil]
                show _ ++ [pathG ss cl (.leg nm i0 j0) ++ []] = _
                rw [List.append_nil, ep]
              rw [ee]
              exact ns9.app ec cb ca ⟨nfc, nbc⟩
  · obtain ⟨st, x5, y6, F2, bs, hst, hne, gb, ff, pr, h3, ns, hx5, hy6⟩ := z
    have est : grp (cntP ss cl) ls = runsOf st := by
      unfold grp
      rw [hst, List.length_map, List.take_length]
    rw [est] at q
    refine ⟨.ref a, h3, e.rt (fun x => F2 x ∨ x ∈ bs) _ _ (.ow (((runsOf st).map (runM ss cl)).map wayD)) 0 ⟨fun b z => .inl (gb.1 b (gb1.1 b z)), fun b z => ?_⟩ ⟨_, rfl, q⟩ ⟨a, rfl, ⟨_, ns.o, ns.all⟩, ?_, fun z => ns.fa.2 (hB a z)⟩ (fun b z => ?_) trivial ((k1.pr g).trans (pr.mono gb1.1 hB))⟩
    · rcases z with z | z
      · exact ((GB.trans gb1 (gb.less hB)).2 b z)
      · exact .inr fun y => (ns.fb b z).2 (hB b y)
    · intro z
      rcases z with z | z
      · exact ns.fa.1 z
      · exact ns.na z
    · rcases z with z | z
      · exact ff.domF b z
      · exact ns.ne z
end
end Pb

namespace Pb
open PySem PySem.Spec PyProof.Rows L2 TL
/-! ### new lists put into an own list: they are kept from then on -/
section
variable {K : PySem.W.Frag} {od : Md} {F B : Addr → Prop} {Γ : List Sl} {σ : L2.St} {H : Hp} {n m : Nat} {P : Po}
theorem Go.keepR {H1 : Hp} {F1 : Addr → Prop} {v : V} {r : Rs} {d : PyData} (o : Go K od F B Γ σ H F1 H1 m) (f : Fits K od F B Γ σ H) (a : RsAt K od F1 B H H1 v r) (e : r.em = some d) : ∃ F2 : Addr → Prop, Go K od F B Γ σ H F2 H1 m ∧ Dk K F2 H1 v d := by
  obtain ⟨F2, h1, h2, h3, _, t⟩ := RsAll.keep (RsAll.cons a .nil (fun _ _ k es z => by simp at z)) (show emAll [r] = some [d] by unfold emAll; rw [e]; rfl) o.f.domF
  refine ⟨F2, o.keep f h1 h2 h3, ?_⟩
  cases t with
  | cons h _ => exact h
theorem s_appE {i : Nat} {t : TE} {ds : List PyData} (hi : Γ[i]? = some (.own ds)) (h : wE K od t Γ n fun r m => ∃ d, r.em = some d ∧ ds.length < 30000 ∧ P.nx (Γ.set i (.own (ds ++ [d]))) m) : wS K od (tDrop (tBM K "list" rAppend (tVar i) (tCons t tNil))) Γ n P := by
  intro F B σ H f g D e
  obtain ⟨v, ev, a, rfl, l, nf, nb⟩ := f.slot hi
  refine ⟨.ref a, ev, .inl ⟨rfl, _, .of l.choose_spec.1⟩, h F B σ H f g _ fun v H1 r m F1 hr o0 a0 => ?_⟩
  obtain ⟨d, er, hl, hp⟩ := hr
  obtain ⟨F2, o1, a1⟩ := o0.keepR f a0 er
  have nf1 := o1.gr.out nf l.ne_none
  obtain ⟨vs, ea, tv⟩ := (o1.k.lk g l).mono o1.gr.1
  have f1 := o1.f
  refine ⟨a, vs, v, rfl, rfl, ea, by rw [tv.len]; exact len20k (by omega), ?_⟩
  refine e.nx F2 _ _ _ _ (o1.gb f) hp (f1.chg hi ev ea ?_) (o1.g.chg f1 nb ea) ((o1.k.pr g).trans (Pr.chg o1.gr.1 nf1 nb ea))
  exact (tv.fk (fk_chg nf1 ea)).app (.cons (Dk.fk (fk_chg nf1 ea) a1) .nil)
theorem s_itemE {i : Nat} {t u : TE} {ds : List PyData} (hi : Γ[i]? = some (.own ds)) (h : wE K od t Γ n fun r m => ∃ d, r.em = some d ∧ wE K od u Γ m fun r' m' => ∃ (k : Int) (j : Nat), r' = .da (.int k) ∧ ixN ds.length k = some j ∧ P.nx (Γ.set i (.own (ds.set j d))) m') : wS K od (tAsg t (gSub (tVar i) u rSetL)) Γ n P := by
  intro F B σ H f g D e
  obtain ⟨v, ev, a, rfl, l, nf, nb⟩ := f.slot hi
  refine h F B σ H f g _ fun v H1 r m F0 hr o0 a0 => ⟨.ref a, ev, ?_⟩
  obtain ⟨d, er, hu⟩ := hr
  obtain ⟨F1, o1, a1⟩ := o0.keepR f a0 er
  refine hu F1 B σ H1 o1.f o1.g _ fun v2 H2 r2 m2 F2 hr2 o2 a2 => ?_
  obtain ⟨k, j, rfl, hk, hp⟩ := hr2
  have o12 := o1.trans o2
  have nf2 := o12.gr.out nf l.ne_none
  obtain ⟨vs, ea, tv⟩ := (o12.k.lk g l).mono o12.gr.1
  rw [Dk.int' a2]
  refine ⟨a, vs, k, j, rfl, rfl, ea, by rw [tv.len]; exact hk, ?_⟩
  refine e.nx F2 _ _ _ _ (o12.gb f) hp (o2.f.chg hi ev ea ?_) (o2.g.chg o2.f nb ea) ((o12.k.pr g).trans (Pr.chg o12.gr.1 nf2 nb ea))
  exact (tv.fk (fk_chg nf2 ea)).set (Dk.fk (fk_chg nf2 ea) ((Dk.fk (o2.k.fk o1.g) a1).mono o2.gr.1)) j
/-- x = .. if .. else x, where the test fails -/
theorem s_self {i : Nat} {tt : TT} {a : TE} {ds : List PyData} (hi : Γ[i]? = some (.own ds)) (ht : EvT K od tt Γ false) (h : P.nx Γ n) : wS K od (tAsg (tIf tt a (tVar i)) (gName i)) Γ n P := by
  intro F B σ H f g D e
  refine ht n (fun b m => b = false ∧ m = n) ⟨rfl, rfl⟩ F B σ H f g _ fun b H1 m F1 q o1 => ?_
  obtain ⟨rfl, rfl⟩ := q
  refine iteF ?_
  obtain ⟨v, ev, x, rfl, l, nf, nb⟩ := o1.f.slot hi
  have eσ : σ.set i (some (.ref x)) = σ := by
    apply List.ext_getElem?
    intro j
    by_cases e : i = j
    · subst e
      rw [List.getElem?_set_self (List.getElem?_eq_some_iff.mp ev).1, ev]
    · rw [List.getElem?_set_ne e]
  refine ⟨.ref x, ev, ?_⟩
  show D.nx (σ.set i (some (.ref x))) H1
  rw [eσ]
  exact e.nx F1 _ _ _ _ (o1.gb f) h o1.f o1.g (o1.k.pr g)
end
end Pb

namespace Pb
open PySem PySem.Spec PyProof.Rows L2 TL
/-! ### the law's runs, and where they go -/
abbrev s_l_runs : Stmt := top 40
abbrev n_l_runs : List Str := ["_law_book_here", "_law_legs_here", "_law_closed", "_law_found", "_law_open_run", "_law_leg_here", "_law_counts"]
abbrev p_l_runs : List Str := ["_law_book_here", "_law_legs_here", "_law_closed"]
theorem sc_l_runs : FnScope n_l_runs p_l_runs (defScope s_l_runs) := ⟨rfl, rfl, rfl, by decide +kernel, rfl, by decide +kernel, by decide +kernel⟩
abbrev s_l_gone : Stmt := top 41
abbrev n_l_gone : List Str := ["_law_book_here", "_law_run", "_law_closed", "_law_marks", "_law_rows", "_law_name", "_law_first", "_law_last", "_law_row", "_law_at", "_law_way"]
abbrev p_l_gone : List Str := ["_law_book_here", "_law_run", "_law_closed"]
theorem sc_l_gone : FnScope n_l_gone p_l_gone (defScope s_l_gone) := ⟨rfl, rfl, rfl, by decide +kernel, rfl, by decide +kernel, by decide +kernel⟩
def runD (r : List Lg) : PyData := .list (r.map legD)
def lawRuns (ss : List Sec) (ls : List Lg) (xs : List Str) : List (List Lg) := if soundL ss ls (some xs) = true then grp (cntP ss (some xs)) ls else []
def tr_l_runs : Tr := fun as P => ∃ (ss : List Sec) (r : D3) (ls : List Lg) (xs : List Str), as = [.da (bkD ss r), .da (.tuple (ls.map legD)), .da (.tuple (xs.map .str))] ∧ (BookG ss r ∧ (∀ l ∈ ls, LgOk l) ∧ ls.length ≤ 1000) ∧ P (.fr ((lawRuns ss ls xs).map runD))
theorem cnt_marks {ss : List Sec} {r : D3} (bg : BookG ss r) {l : Lg} (lo : LgOk l) (xs : List Str) : (!PyData.eqv (.tuple ((marksOf ss l xs).map .str)) (.tuple [])) = cntP ss (some xs) l := by
  rw [eqv_nilT]
  unfold cntP
  cases h : marksOf ss l xs with
  | nil =>
    rw [marks_nil h lo]
    rfl
  | cons a b =>
    obtain ⟨s, hs⟩ := marks_some (ss := ss) (l := l) (xs := xs) (by rw [h]; exact List.cons_ne_nil _ _)
    rw [hs]
    rfl
section
variable {P : Program} {w : World} {K : PySem.W.Frag} {mg : Str → Option Value} {base : Heap}
theorem kn_l_runs (D : Df K mg "_law_runs" s_l_runs) (B : BW mg) (k_l_marks_of : Kn P w K mg base "_law_marks_of" 1 p_l_marks_of (spD K tr_l_marks_of)) (k_l_is_sound : Kn P w K mg base "_law_is_sound" 2 p_l_is_sound (spD K tr_l_is_sound)) : Kn P w K mg base "_law_runs" 3 p_l_runs (spD K tr_l_runs) := by
  refine D.knD sc_l_runs (fun _ _ _ _ _ _ us hl => match us, hl with | [_, _, _], _ => rfl) (fun as Q h => by obtain ⟨ss, r, l, xs, rfl, _⟩ := h; rfl) (fun f cdv A outer s H E gd hr => ?_)
  refine ⟨_, PSs.nox (pss_cons (ps_par (i := 3) (j := 4) rfl sc_l_runs.nd rfl rfl (by decide) rfl rfl (pa_cons (pe_lst pa_nil) (pa_cons pe_bl pa_nil)) (by rfl)) (pss_cons (ps_for PassesOwn.never rfl (pi_tup (pv 1)) (pg_name (i := 5) sc_l_runs.nd rfl (.inl rfl)) (pss_cons (ps_set (i := 6) sc_l_runs.nd rfl (.inl rfl) (pe_cmpR (op_neD hr.units) (pe_kn k_l_marks_of gd (hr.mono (by decide)) rfl (pa_cons (pv 0) (pa_cons (pv 5) (pa_cons (pv 2) pa_nil)))) (pe_tup pa_nil) (nomark _))) (pss_cons (ps_if (PW.pt (pw_and (pt_val (pv 6)) (pw_and1 (pt_val (pv 4))))) (pss_one (ps_asg (pe_op op_catS (pe_ix ix_list (pv 3) (pe_un un_neg pe_int) (fun _ _ => rfl)) (pe_lst (pa_cons (pv 5) pa_nil))) (pg_sub (pv 3) (pe_un un_neg pe_int) set_list))) (pss_one (ps_if (pt_val (pv 6)) (pss_one (ps_expr (pe_bm PySem.F.plainAttrs_list PySem.F.slot_list_append PySem.F.type_list_append mt_append (pv 3) (pa_cons (pe_lst (pa_cons (pv 5) pa_nil)) pa_nil)))) pss_nil))) (pss_one (ps_set (i := 4) sc_l_runs.nd rfl (.inl rfl) (pv 6)))))) (pss_one (ps_ret (pe_ifExp (pt_val (pe_kn k_l_is_sound gd (hr.mono (by decide)) rfl (pa_cons (pv 0) (pa_cons (pv 1) (pa_cons (pv 2) pa_nil))))) (pv 3) (pe_lst pa_nil)))))), fun as Q h => ?_⟩
  try dsimp only [cxOf]
  obtain ⟨ss, r, ls, xs, rfl, ⟨bg, lo, ll⟩, q⟩ := h
  unfold lawRuns at q
  refine s_seq (s_par (by decide) ((ev_cons (ev_lst ev_nil rfl (Nat.le_of_ble_eq_true rfl)) (ev_cons ev_bl ev_nil)) _ _ ⟨_, _, rfl, ?_⟩))
  refine s_seq (s_for (own := [5]) ((f_tup (ev_v rfl)) _ _ ⟨fun k Γ' _ => ∃ (st : List (List Lg) × Option (List Lg)) (x y : Sl), st = (ls.take k).foldl (stG (cntP ss (some xs))) ([], none) ∧ Γ' = [.da (bkD ss r), .da (.tuple (ls.map legD)), .da (.tuple (xs.map .str)), .own ((runsOf st).map runD), .da (.bool st.2.isSome), x, y], ⟨([], none), .no, .no, rfl, rfl⟩, fun k d Γ' m hd hI => ?_, fun Γ' m hI => ?_⟩))
  · obtain ⟨st, x, y, hst, rfl⟩ := hI
    obtain ⟨l, hl, rfl⟩ := map_get hd
    have kl : k < ls.length := (List.getElem?_eq_some_iff.mp hl).1
    have lk : LgOk l := lo l (List.mem_of_getElem? hl)
    have tk : (ls.take (k + 1)).foldl (stG (cntP ss (some xs))) ([], none) = stG (cntP ss (some xs)) st l := by
      rw [List.take_add_one, hl, List.foldl_append, hst]
      rfl
    have rlen : (runsOf st).length ≤ 1000 := by
      have hf : (runsOf st).flatten = (ls.take k).filter (cntP ss (some xs)) := by
        rw [hst, fold_flatG]
        rfl
      have h1 : (runsOf st).length ≤ (runsOf st).flatten.length := flat_many (by rw [hst]; exact fold_ne _ _ _ fun r z => nomatch z)
      rw [hf] at h1
      have h4 := List.length_filter_le (cntP ss (some xs)) (ls.take k)
      have h5 := List.length_take_le k ls
      omega
    refine g_name (by decide) ?_
    refine s_seq (s_set (Ev.w (Ev.eq (b' := .da (.bool (cntP ss (some xs) l))) (ev_op (ev_call (ev_cons (ev_v rfl) (ev_cons (ev_v rfl) (ev_cons (ev_v rfl) ev_nil))) rfl (fun _ hp => ⟨_, _, _, _, rfl, (lk), hp⟩)) (ev_tup ev_nil rfl (Nat.le_of_ble_eq_true rfl)) (d_neD rfl rfl (nmsT_shp (marks_nm bg l xs)) (rfl))) (by rw [cnt_marks bg lk])) ?_))
    have isS : (stG (cntP ss (some xs)) st l).2.isSome = cntP ss (some xs) l := by
      unfold stG
      cases cntP ss (some xs) l <;> rfl
    refine s_seqJ (fun Γ' n' => Γ' = [.da (bkD ss r), .da (.tuple (ls.map legD)), .da (.tuple (xs.map .str)), .own ((runsOf (stG (cntP ss (some xs)) st l)).map runD), .da (.bool st.2.isSome), .da (legD l), .da (.bool (cntP ss (some xs) l))]) ?_ (fun Γ' n' hJ => ?_)
    · cases hp : cntP ss (some xs) l with
      | true =>
        cases hc : st.2 with
        | some rr =>
          have e1 : (runsOf st).map runD = st.1.map runD ++ [runD rr] := by
            unfold runsOf
            rw [hc, List.map_append]
            rfl
          have e2 : (runsOf (stG (cntP ss (some xs)) st l)).map runD = st.1.map runD ++ [runD (rr ++ [l])] := by
            unfold stG runsOf
            rw [hp, if_pos rfl, hc, List.map_append]
            rfl
          have rl : rr.length ≤ 1000 := by
            have hf : (runsOf st).flatten = (ls.take k).filter (cntP ss (some xs)) := by
              rw [hst, fold_flatG]
              rfl
            have hm : rr ∈ runsOf st := by
              unfold runsOf
              rw [hc]
              exact List.mem_append_right _ List.mem_cons_self
            have h1 := (flat_in hm).1
            rw [hf] at h1
            have h4 := List.length_filter_le (cntP ss (some xs)) (ls.take k)
            have h5 := List.length_take_le k ls
            omega
          rw [e1, e2]
          refine s_ite (c := true) (EvT.eq (ev_and (ev_tB (ev_v rfl)) (fun hc => (ev_tB (ev_v rfl)))) rfl) (fun _ => s_itemE (i := 3) rfl (Ev.w (ev_op (ev_op (ev_v rfl) (ev_un ev_int d_neg) (d_ixL rfl (at_last _ _))) (ev_lst (ev_cons (ev_v rfl) ev_nil) rfl (Nat.le_of_ble_eq_true rfl)) (d_catL (ds := rr.map legD) rfl rfl (by rw [List.length_map]; show _ + 1 ≤ 30000; omega))) ⟨runD (rr ++ [l]), ?_, Ev.w (ev_un ev_int d_neg) ⟨_, st.1.length, rfl, ?_, ?_⟩⟩)) (fun hc => nomatch hc)
          · show some (PyData.list (rr.map legD ++ [legD l])) = _
            unfold runD
            rw [List.map_append]
            rfl
          · unfold ixN
            rw [List.length_append, List.length_map, if_neg (by decide), if_pos (by show -((st.1.length + 1 : Nat) : Int) ≤ -1; omega)]
            congr 1
            show (-1 + ((st.1.length + 1 : Nat) : Int)).toNat = st.1.length
            omega
          · have : (st.1.map runD ++ [runD rr]).set st.1.length (runD (rr ++ [l])) = st.1.map runD ++ [runD (rr ++ [l])] := by
              have hl2 : st.1.length = (st.1.map runD).length := by rw [List.length_map]
              rw [hl2, List.set_append_right _ _ (Nat.le_refl _), Nat.sub_self]
              rfl
            rw [← this]
            rfl
        | none =>
          have e2 : (runsOf (stG (cntP ss (some xs)) st l)).map runD = (runsOf st).map runD ++ [runD [l]] := by
            unfold stG runsOf
            rw [hp, if_pos rfl, hc, List.map_append]
            show _ ++ [runD [l]] = (st.1 ++ []).map runD ++ _
            rw [List.append_nil]
          rw [e2]
          refine s_ite (c := false) (EvT.eq (ev_and (ev_tB (ev_v rfl)) (fun hc => (ev_tB (ev_v rfl)))) rfl) (fun hc => nomatch hc) (fun _ => s_ite (c := true) (ev_tB (ev_v rfl)) (fun _ => s_appE (i := 3) rfl (Ev.w (ev_lst (ev_cons (ev_v rfl) ev_nil) rfl (Nat.le_of_ble_eq_true rfl)) ⟨_, rfl, by rw [List.length_map]; omega, rfl⟩)) (fun hc => nomatch hc))
      | false =>
        have e2 : runsOf (stG (cntP ss (some xs)) st l) = runsOf st := by
          unfold stG runsOf
          rw [hp, if_neg Bool.false_ne_true]
          exact List.append_nil _
        rw [e2]
        exact s_ite (c := false) (ev_and (b := false) (c := false) (ev_tB (ev_v rfl)) (fun hc => nomatch hc)) (fun hc => nomatch hc) (fun _ => s_ite (c := false) (ev_tB (ev_v rfl)) (fun hc => nomatch hc) (fun _ => s_next rfl))
    · subst hJ
      refine s_set (Ev.w (ev_v rfl) ?_)
      exact ⟨stG (cntP ss (some xs)) st l, _, _, tk.symm, by rw [isS]; rfl⟩
  · obtain ⟨st, x, y, hst, rfl⟩ := hI
    have est : grp (cntP ss (some xs)) ls = runsOf st := by
      unfold grp
      rw [hst, List.length_map, List.take_length]
    rw [est] at q
    cases hs : soundL ss ls (some xs) with
    | true =>
      rw [hs, if_pos rfl] at q
      exact s_ret (Ev.w (Ev.eq (b' := .ow ((runsOf st).map runD)) (ev_if (c := true) (y := .da .none) (EvT.eq (ev_tB (ev_call (ev_cons (ev_v rfl) (ev_cons (ev_v rfl) (ev_cons (ev_v rfl) ev_nil))) rfl (fun _ hp => ⟨_, _, _, _, rfl, (⟨bg, lo, ll⟩), hp⟩))) hs) (fun _ => ev_v rfl) (fun hc => nomatch hc)) rfl) ⟨_, rfl, q⟩)
    | false =>
      rw [hs, if_neg Bool.false_ne_true] at q
      exact s_ret (Ev.w (Ev.eq (b' := .fr []) (ev_if (c := false) (x := .da .none) (EvT.eq (ev_tB (ev_call (ev_cons (ev_v rfl) (ev_cons (ev_v rfl) (ev_cons (ev_v rfl) ev_nil))) rfl (fun _ hp => ⟨_, _, _, _, rfl, (⟨bg, lo, ll⟩), hp⟩))) hs) (fun hc => nomatch hc) (fun _ => ev_lst ev_nil rfl (Nat.le_of_ble_eq_true rfl))) rfl) ⟨_, rfl, q⟩)
end
end Pb

namespace Pb
open PySem PySem.Spec PyProof.Rows L2 TL
def mkS (s : Sec) (p : Int × Bool) : Str := s.ms.getD (if p.2 = true then p.1 + 1 else p.1).toNat ""
def psN (nm : Str) (p : Int × Bool) : Str × Int × Bool := (nm, p.1, p.2)
def tr_l_gone : Tr := fun as P => ∃ (ss : List Sec) (r : D3) (run : List Lg) (xs : List Str), as = [.da (bkD ss r), .da (.list (run.map legD)), .da (.tuple (xs.map .str))] ∧ (BookG ss r ∧ (∀ l ∈ run, LgOk l ∧ cntP ss (some xs) l = true) ∧ run.length ≤ 1000) ∧ P (.fr [wayD (runM ss (some xs) run), .list ((run.flatMap passG).map psD)])
theorem strs_shp {ys : List Str} (h : ∀ y ∈ ys, Sh 8 y) : SeqAt.shaped (.list (ys.map .str)) = true := (Ly.lst (LyA.map ys fun y hy => Ly.str (h y hy))).shp (by decide)
theorem sh_empty : Sh 8 ("" : Str) := ⟨by decide +kernel, by decide +kernel⟩
theorem getD_sh {ms : List Str} (h : ∀ y ∈ ms, Nm y) (k : Nat) : Sh 8 (ms.getD k "") := by
  rw [List.getD_eq_getElem?_getD]
  cases e : ms[k]? with
  | none => exact sh_empty
  | some y => exact (h y (List.mem_of_getElem? e)).sh
theorem pathG_sh {ss : List Sec} {r : D3} (bg : BookG ss r) {cl : Option (List Str)} {l : Lg} : ∀ y ∈ pathG ss cl l, Sh 8 y := by
  intro y hy
  unfold pathG at hy
  cases l with
  | ride => cases hy
  | leg n i j =>
    cases hs : secFor ss (.leg n i j) cl with
    | none =>
      rw [hs] at hy
      cases hy
    | some s =>
      rw [hs] at hy
      have sk := bg.ss s (secFor_in hs).1
      rcases List.mem_cons.mp hy with rfl | z
      · exact getD_sh sk.mn _
      · obtain ⟨p, _, rfl⟩ := List.mem_map.mp z
        exact getD_sh sk.mn _
theorem runM_sh {ss : List Sec} {r : D3} (bg : BookG ss r) {cl : Option (List Str)} (run : List Lg) : ∀ y ∈ runM ss cl run, Sh 8 y := by
  intro y hy
  cases run with
  | nil => cases hy
  | cons l q =>
    rcases List.mem_append.mp hy with z | z
    · exact pathG_sh bg y z
    · obtain ⟨x, _, hx⟩ := List.mem_flatMap.mp z
      exact pathG_sh bg y (List.mem_of_mem_tail hx)
theorem pass_len {l : Lg} (h : LgOk l) : (passG l).length ≤ 7 := by
  unfold passG
  rw [List.length_map]
  cases l with
  | ride => exact Nat.zero_le _
  | leg n i j => exact steps_len h.2.1 h.2.2.2.1 h.2.2.1 h.2.2.2.2
section
variable {P : Program} {w : World} {K : PySem.W.Frag} {mg : Str → Option Value} {base : Heap}
theorem kn_l_gone (D : Df K mg "_law_gone" s_l_gone) (B : BW mg) (k_l_marks_of : Kn P w K mg base "_law_marks_of" 1 p_l_marks_of (spD K tr_l_marks_of)) : Kn P w K mg base "_law_gone" 2 p_l_gone (spD K tr_l_gone) := by
  refine D.knD sc_l_gone (fun _ _ _ _ _ _ us hl => match us, hl with | [_, _, _], _ => rfl) (fun as Q h => by obtain ⟨ss, r, l, xs, rfl, _⟩ := h; rfl) (fun f cdv A outer s H E gd hr => ?_)
  refine ⟨_, PSs.nox (pss_cons (ps_par (i := 3) (j := 4) rfl sc_l_gone.nd rfl rfl (by decide) rfl rfl (pa_cons (pe_lst pa_nil) (pa_cons (pe_lst pa_nil) pa_nil)) (by rfl)) (pss_cons (ps_for PassesOwn.never rfl (pi_list (pv 1)) (pg_tup rfl (pgs_cons (pg_name (i := 5) sc_l_gone.nd rfl (.inl rfl)) (pgs_cons (pg_name (i := 6) sc_l_gone.nd rfl (.inl rfl)) (pgs_cons (pg_name (i := 7) sc_l_gone.nd rfl (.inl rfl)) pgs_nil)))) (pss_cons (ps_par (i := 8) (j := 9) rfl sc_l_gone.nd rfl rfl (by decide) rfl rfl (pa_cons (pe_kn k_l_marks_of gd (hr.mono (by decide)) rfl (pa_cons (pv 0) (pa_cons (pe_tup (pa_cons (pv 5) (pa_cons (pv 6) (pa_cons (pv 7) pa_nil)))) (pa_cons (pv 2) pa_nil)))) (pa_cons (pv 6) pa_nil)) (by rfl)) (pss_cons (ps_set (i := 3) sc_l_gone.nd rfl (.inl rfl) (pe_ifExp (pt_cmpR (op_eqD hr.units) (pv 3) (pe_lst pa_nil) (nomark _)) (pe_op op_catS (pv 3) (pe_lst (pa_cons (pe_ix ix_tup (pv 8) (pv 6) (fun _ _ => rfl)) pa_nil))) (pv 3))) (pss_one (ps_while PassesOwn.never (pt_cmpR op_ne (pv 9) (pv 7) (nomark _)) (pss_cons (ps_set (i := 10) sc_l_gone.nd rfl (.inl rfl) (pe_ifExp (pt_cmpR op_lt (pv 9) (pv 7) (nomark _)) pe_int (pe_un un_neg pe_int))) (pss_cons (ps_expr (pe_bm PySem.F.plainAttrs_list PySem.F.slot_list_append PySem.F.type_list_append mt_append (pv 4) (pa_cons (pe_tup (pa_cons (pv 5) (pa_cons (pe_callB (call_min2 rfl) rfl B.min bt_min (pa_cons (pv 9) (pa_cons (pe_op op_add (pv 9) (pv 10)) pa_nil))) (pa_cons (pe_cmpR op_eq (pv 10) pe_int (nomark _)) pa_nil)))) pa_nil))) (pss_cons (ps_set (i := 9) sc_l_gone.nd rfl (.inl rfl) (pe_op op_add (pv 9) (pv 10))) (pss_one (ps_expr (pe_bm PySem.F.plainAttrs_list PySem.F.slot_list_append PySem.F.type_list_append mt_append (pv 3) (pa_cons (pe_ix ix_tup (pv 8) (pv 9) (fun _ _ => rfl)) pa_nil)))))))))))) (pss_one (ps_ret (pe_lst (pa_cons (pv 3) (pa_cons (pv 4) pa_nil))))))), fun as Q h => ?_⟩
  try dsimp only [cxOf]
  obtain ⟨ss, r, run, xs, rfl, ⟨bg, lo, ll⟩, q⟩ := h
  have plen : ∀ l ∈ run, (pathG ss (some xs) l).length ≤ 8 := fun l hl => pathG_len (lo l hl).1
  refine s_seq (s_par (by decide) ((ev_cons (ev_lst ev_nil rfl (Nat.le_of_ble_eq_true rfl)) (ev_cons (ev_lst ev_nil rfl (Nat.le_of_ble_eq_true rfl)) ev_nil)) _ _ ⟨_, _, rfl, ?_⟩))
  refine s_seq (s_for (own := [5, 6, 7]) (f_lstK (ds := run.map legD) (ev_v rfl) _ _ ⟨fun k Γ' _ => ∃ x5 x6 x7 x8 x9 x10, Γ' = [.da (bkD ss r), .da (.list (run.map legD)), .da (.tuple (xs.map .str)), .own ((runM ss (some xs) (run.take k)).map .str), .own (((run.take k).flatMap passG).map psD), x5, x6, x7, x8, x9, x10], ⟨.no, .no, .no, .no, .no, .no, rfl⟩, fun k d Γ' m hd hI => ?_, fun Γ' m hI => ?_⟩))
  · obtain ⟨x5, x6, x7, x8, x9, x10, rfl⟩ := hI
    obtain ⟨l, hl, rfl⟩ := map_get hd
    have kl : k < run.length := (List.getElem?_eq_some_iff.mp hl).1
    have lmem := List.mem_of_getElem? hl
    obtain ⟨lk, lc⟩ := lo l lmem
    cases l with
    | ride => cases lc
    | leg nm i j =>
      obtain ⟨sc, hs⟩ := Option.isSome_iff_exists.mp lc
      obtain ⟨smem, snm, shi⟩ := secFor_in hs
      obtain ⟨hii, hjj⟩ := hi_le shi
      have sk := bg.ss sc smem
      have ems : marksOf ss (.leg nm i j) xs = sc.ms := by
        unfold marksOf
        rw [hs]
      have ep : pathG ss (some xs) (.leg nm i j) = pathM sc i j := by
        unfold pathG
        rw [hs]
      obtain ⟨_, i0, i7, j0, j7⟩ := lk
      refine g_tup rfl (g_cons (g_name (by decide) (g_cons (g_name (by decide) (g_cons (g_name (by decide) (g_nil ?_)))))))
      have hmo : Ev K none (tCall (spD K tr_l_marks_of) [] E0 (tCons (tVar 0) (tCons (tTup (tCons (tVar 5) (tCons (tVar 6) (tCons (tVar 7) tNil)))) (tCons (tVar 2) tNil)))) [.da (bkD ss r), .da (.list (run.map legD)), .da (.tuple (xs.map .str)), .own ((runM ss (some xs) (run.take k)).map .str), .own (((run.take k).flatMap passG).map psD), .da (.str nm), .da (.int i), .da (.int j), x8, x9, x10] (.da (.tuple (sc.ms.map .str))) := by
        rw [← ems]
        exact ev_call (ev_cons (ev_v rfl) (ev_cons (ev_tup3 (ev_v rfl) (ev_v rfl) (ev_v rfl)) (ev_cons (ev_v rfl) ev_nil))) rfl (fun _ hp => ⟨ss, r, .leg nm i j, xs, rfl, ⟨lo _ lmem |>.1.1, i0, i7, j0, j7⟩, hp⟩)
      refine s_seq (s_par (by decide) ((ev_cons hmo (ev_cons (ev_v rfl) ev_nil)) _ _ ⟨_, _, rfl, ?_⟩))
      have tkr : run.take (k + 1) = run.take k ++ [.leg nm i j] := by
        rw [List.take_add_one, hl]
        rfl
      have R0l : ((run.take k).flatMap passG).length ≤ 7000 := by
        have h1 := flat_len (k := 7) (xs := run.take k) (f := passG) fun x hx => pass_len (lo x (List.mem_of_mem_take hx)).1
        have h2 := List.length_take_le k run
        omega
      have M0l : (runM ss (some xs) (run.take k)).length ≤ 8000 := by
        have h1 := runM_len (ss := ss) (cl := some xs) (r := run.take k) fun x hx => plen x (List.mem_of_mem_take hx)
        have h2 := List.length_take_le k run
        omega
      have er : (run.take (k + 1)).flatMap passG = (run.take k).flatMap passG ++ (stepsL i j).map (psN nm) := by
        rw [tkr, List.flatMap_append, List.flatMap_cons, List.flatMap_nil, List.append_nil]
        rfl
      have s7 := steps_len i0 j0 i7 j7
      refine s_seqJ (fun Γ' n' => ∃ M0 : List Str, Γ' = [.da (bkD ss r), .da (.list (run.map legD)), .da (.tuple (xs.map .str)), .own (M0.map .str), .own (((run.take k).flatMap passG).map psD), .da (.str nm), .da (.int i), .da (.int j), .da (.tuple (sc.ms.map .str)), .da (.int i), x10] ∧ M0 ++ (stepsL i j).map (mkS sc) = runM ss (some xs) (run.take (k + 1)) ∧ M0.length ≤ 8000) ?_ (fun Γ' n' hJ => ?_)
      · cases hk : run.take k with
        | nil =>
          refine s_set (Ev.w (Ev.eq (b' := .fr [.str (sc.ms.getD i.toNat "")]) (ev_if (c := true) (y := .da .none) (EvT.eq (ev_test (ev_op (ev_v rfl) (ev_lst ev_nil rfl (Nat.le_of_ble_eq_true rfl)) (d_eqD rfl rfl (rfl) (rfl)))) rfl) (fun _ => ev_op (ev_v rfl) (ev_lst (ev_cons (ev_op (ev_v rfl) (ev_v rfl) (d_ixT (at_str i0 hii))) ev_nil) rfl (Nat.le_of_ble_eq_true rfl)) (d_catL rfl rfl (Nat.le_of_ble_eq_true rfl))) (fun hc => nomatch hc)) rfl) ?_)
          refine ⟨[sc.ms.getD i.toNat ""], rfl, ?_, by show 1 ≤ 8000; decide⟩
          rw [tkr, hk]
          show _ = pathG ss (some xs) (.leg nm i j) ++ []
          rw [List.append_nil, ep]
          rfl
        | cons a b =>
          rw [← hk]
          have rne : run.take k ≠ [] := by
            rw [hk]
            exact List.cons_ne_nil _ _
          have mne : runM ss (some xs) (run.take k) ≠ [] := by
            rw [hk]
            have ha : a ∈ run := List.mem_of_mem_take (by rw [hk]; exact List.mem_cons_self)
            obtain ⟨sa, hsa⟩ := Option.isSome_iff_exists.mp (lo a ha).2
            cases a with
            | ride => cases hsa
            | leg n1 i1 j1 =>
              have : pathG ss (some xs) (.leg n1 i1 j1) = pathM sa i1 j1 := by
                unfold pathG
                rw [hsa]
              show pathG ss (some xs) (.leg n1 i1 j1) ++ _ ≠ []
              rw [this]
              exact List.cons_ne_nil _ _
          refine s_self rfl (EvT.eq (ev_test (ev_op (ev_v rfl) (ev_lst ev_nil rfl (Nat.le_of_ble_eq_true rfl)) (d_eqD rfl rfl (strs_shp (runM_sh bg _)) (rfl)))) ?_) ⟨_, rfl, ?_, M0l⟩
          · rw [eqv_nilL]
            refine decide_eq_false fun z => mne ?_
            exact List.map_eq_nil_iff.mp z
          · rw [tkr, runM_snoc rne, ep]
            rfl
      obtain ⟨M0, rfl, eM, M0l'⟩ := hJ
      dsimp only
      rw [er, ← eM]
      generalize (run.take k).flatMap passG = R0 at R0l
      clear eM er M0l tkr
      by_cases c : i < j
      · have stl : stepsL i j = (List.range (j - i).toNat).map fun t : Nat => (i + (t : Nat), true) := by
          unfold stepsL
          rw [if_pos c]
        have stt : ∀ t : Nat, t < (j - i).toNat → (stepsL i j).take (t + 1) = (stepsL i j).take t ++ [(i + (t : Nat), true)] := fun t ht => by
          have e : (stepsL i j)[t]? = some (i + (t : Nat), true) := by
            rw [stl, List.getElem?_map, List.getElem?_range ht]
            rfl
          rw [List.take_add_one, e]
          rfl
        have slen : (stepsL i j).length = (j - i).toNat := by
          rw [stl, List.length_map, List.length_range]
        refine s_while (fun m Γ' _ => ∃ (t : Nat) (x10 : Sl), m + t = (j - i).toNat ∧ Γ' = [.da (bkD ss r), .da (.list (run.map legD)), .da (.tuple (xs.map .str)), .own ((M0 ++ ((stepsL i j).take t).map (mkS sc)).map .str), .own ((R0 ++ ((stepsL i j).take t).map (psN nm)).map psD), .da (.str nm), .da (.int i), .da (.int j), .da (.tuple (sc.ms.map .str)), .da (.int (i + (t : Nat))), x10]) ⟨(j - i).toNat, 0, x10, rfl, ?_⟩ (fun m Γ' n' hI => ?_)
        · rw [List.take_zero, List.map_nil, List.map_nil, List.append_nil, List.append_nil]
          have e0 : (fun t : Nat => i + (t : Nat)) 0 = i := by
            show i + ((0 : Nat) : Int) = i
            omega
          show _ = [_, _, _, _, _, _, _, _, _, Sl.da (.int (i + ((0 : Nat) : Int))), _]
          have e1 : i + ((0 : Nat) : Int) = i := by omega
          rw [e1]
        · obtain ⟨t, x10, hmt, rfl⟩ := hI
          by_cases ht : t < (j - i).toNat
          · refine (EvT.eq (b' := true) (ev_test (ev_op (ev_v rfl) (ev_v rfl) d_neI)) (by rw [decide_eq_false (by omega)]; rfl)) _ _ (iteT ?_)
            refine s_seq (s_set (Ev.w (Ev.eq (b' := .da (.int (1))) (ev_if (c := true) (y := .da .none) (EvT.eq (ev_test (ev_op (ev_v rfl) (ev_v rfl) d_ib)) (decide_eq_true (by omega))) (fun _ => ev_int) (fun hc => nomatch hc)) rfl) ?_))
            have ml : (M0 ++ ((stepsL i j).take t).map (mkS sc)).length ≤ 16000 := by
              rw [List.length_append, List.length_map, List.length_take]
              omega
            have rl : (R0 ++ ((stepsL i j).take t).map (psN nm)).length ≤ 16000 := by
              rw [List.length_append, List.length_map, List.length_take]
              omega
            refine s_seq (s_append (i := 4) rfl (Ev.w (Ev.eq (b' := .da (psD (psN nm (i + (t : Nat), true)))) (ev_tup3 (ev_v rfl) (ev_cb (ev_cons (ev_v rfl) (ev_cons (ev_op (ev_v rfl) (ev_v rfl) d_ii) ev_nil)) d_min2) (ev_op (ev_v rfl) ev_int d_eqI)) ?_) ⟨_, rfl, by rw [List.length_map]; omega, ?_⟩))
            · have e1 : (if (i + (t : Nat)) + (1) < i + (t : Nat) then (i + (t : Nat)) + (1) else i + (t : Nat)) = i + (t : Nat) := by
                split <;> omega
              rw [e1]
              rfl
            refine s_seq (s_set (Ev.w (ev_op (ev_v rfl) (ev_v rfl) d_ii) ?_))
            refine s_append (i := 3) rfl (Ev.w (ev_op (ev_v rfl) (ev_v rfl) (d_ixT (at_str (by omega) (by omega)))) ⟨_, rfl, by rw [List.length_map]; omega, ⟨m - 1, by omega, t + 1, .da (.int (1)), by omega, ?_⟩⟩)
            have e2 : (i + (t : Nat)) + (1) = i + ((t + 1 : Nat) : Int) := by omega
            have e3 : mkS sc (i + (t : Nat), true) = sc.ms.getD ((i + (t : Nat)) + (1)).toNat "" := by
              show sc.ms.getD (if true = true then i + (t : Nat) + 1 else i + (t : Nat)).toNat "" = _
              have e4 : (if true = true then i + (t : Nat) + 1 else i + (t : Nat)) = (i + (t : Nat)) + (1) := by
                rw [if_pos rfl]
              rw [e4]
            have eA : (M0 ++ ((stepsL i j).take (t + 1)).map (mkS sc)).map PyData.str = (M0 ++ ((stepsL i j).take t).map (mkS sc)).map PyData.str ++ [.str (sc.ms.getD ((i + (t : Nat)) + (1)).toNat "")] := by
              have e5 : M0 ++ ((stepsL i j).take (t + 1)).map (mkS sc) = (M0 ++ ((stepsL i j).take t).map (mkS sc)) ++ [mkS sc (i + (t : Nat), true)] := by
                rw [stt t ht, List.map_append, List.append_assoc]
                rfl
              rw [e5, List.map_append, e3]
              rfl
            have eB : (R0 ++ ((stepsL i j).take (t + 1)).map (psN nm)).map psD = (R0 ++ ((stepsL i j).take t).map (psN nm)).map psD ++ [psD (psN nm (i + (t : Nat), true))] := by
              have e5 : R0 ++ ((stepsL i j).take (t + 1)).map (psN nm) = (R0 ++ ((stepsL i j).take t).map (psN nm)) ++ [psN nm (i + (t : Nat), true)] := by
                rw [stt t ht, List.map_append, List.append_assoc]
                rfl
              rw [e5, List.map_append]
              rfl
            rw [eA, eB, ← e2]
            rfl
          · have et : t = (j - i).toNat := by omega
            subst et
            refine (EvT.eq (b' := false) (ev_test (ev_op (ev_v rfl) (ev_v rfl) d_neI)) (by rw [decide_eq_true (by omega)]; rfl)) _ _ (iteF ?_)
            rw [List.take_of_length_le (by omega)]
            exact ⟨_, _, _, _, _, _, rfl⟩
      · have stl : stepsL i j = (List.range (i - j).toNat).map fun t : Nat => (i - 1 - (t : Nat), false) := by
          unfold stepsL
          rw [if_neg c]
        have stt : ∀ t : Nat, t < (i - j).toNat → (stepsL i j).take (t + 1) = (stepsL i j).take t ++ [(i - 1 - (t : Nat), false)] := fun t ht => by
          have e : (stepsL i j)[t]? = some (i - 1 - (t : Nat), false) := by
            rw [stl, List.getElem?_map, List.getElem?_range ht]
            rfl
          rw [List.take_add_one, e]
          rfl
        have slen : (stepsL i j).length = (i - j).toNat := by
          rw [stl, List.length_map, List.length_range]
        refine s_while (fun m Γ' _ => ∃ (t : Nat) (x10 : Sl), m + t = (i - j).toNat ∧ Γ' = [.da (bkD ss r), .da (.list (run.map legD)), .da (.tuple (xs.map .str)), .own ((M0 ++ ((stepsL i j).take t).map (mkS sc)).map .str), .own ((R0 ++ ((stepsL i j).take t).map (psN nm)).map psD), .da (.str nm), .da (.int i), .da (.int j), .da (.tuple (sc.ms.map .str)), .da (.int (i - (t : Nat))), x10]) ⟨(i - j).toNat, 0, x10, rfl, ?_⟩ (fun m Γ' n' hI => ?_)
        · rw [List.take_zero, List.map_nil, List.map_nil, List.append_nil, List.append_nil]
          have e0 : (fun t : Nat => i - (t : Nat)) 0 = i := by
            show i - ((0 : Nat) : Int) = i
            omega
          show _ = [_, _, _, _, _, _, _, _, _, Sl.da (.int (i - ((0 : Nat) : Int))), _]
          have e1 : i - ((0 : Nat) : Int) = i := by omega
          rw [e1]
        · obtain ⟨t, x10, hmt, rfl⟩ := hI
          by_cases ht : t < (i - j).toNat
          · refine (EvT.eq (b' := true) (ev_test (ev_op (ev_v rfl) (ev_v rfl) d_neI)) (by rw [decide_eq_false (by omega)]; rfl)) _ _ (iteT ?_)
            refine s_seq (s_set (Ev.w (Ev.eq (b' := .da (.int (-1))) (ev_if (c := false) (x := .da .none) (EvT.eq (ev_test (ev_op (ev_v rfl) (ev_v rfl) d_ib)) (decide_eq_false (by omega))) (fun hc => nomatch hc) (fun _ => ev_un ev_int d_neg)) rfl) ?_))
            have ml : (M0 ++ ((stepsL i j).take t).map (mkS sc)).length ≤ 16000 := by
              rw [List.length_append, List.length_map, List.length_take]
              omega
            have rl : (R0 ++ ((stepsL i j).take t).map (psN nm)).length ≤ 16000 := by
              rw [List.length_append, List.length_map, List.length_take]
              omega
            refine s_seq (s_append (i := 4) rfl (Ev.w (Ev.eq (b' := .da (psD (psN nm (i - 1 - (t : Nat), false)))) (ev_tup3 (ev_v rfl) (ev_cb (ev_cons (ev_v rfl) (ev_cons (ev_op (ev_v rfl) (ev_v rfl) d_ii) ev_nil)) d_min2) (ev_op (ev_v rfl) ev_int d_eqI)) ?_) ⟨_, rfl, by rw [List.length_map]; omega, ?_⟩))
            · have e1 : (if (i - (t : Nat)) + (-1) < i - (t : Nat) then (i - (t : Nat)) + (-1) else i - (t : Nat)) = i - 1 - (t : Nat) := by
                split <;> omega
              rw [e1]
              rfl
            refine s_seq (s_set (Ev.w (ev_op (ev_v rfl) (ev_v rfl) d_ii) ?_))
            refine s_append (i := 3) rfl (Ev.w (ev_op (ev_v rfl) (ev_v rfl) (d_ixT (at_str (by omega) (by omega)))) ⟨_, rfl, by rw [List.length_map]; omega, ⟨m - 1, by omega, t + 1, .da (.int (-1)), by omega, ?_⟩⟩)
            have e2 : (i - (t : Nat)) + (-1) = i - ((t + 1 : Nat) : Int) := by omega
            have e3 : mkS sc (i - 1 - (t : Nat), false) = sc.ms.getD ((i - (t : Nat)) + (-1)).toNat "" := by
              show sc.ms.getD (if false = true then i - 1 - (t : Nat) + 1 else i - 1 - (t : Nat)).toNat "" = _
              have e4 : (if false = true then i - 1 - (t : Nat) + 1 else i - 1 - (t : Nat)) = (i - (t : Nat)) + (-1) := by
                rw [if_neg Bool.false_ne_true]
                omega
              rw [e4]
            have eA : (M0 ++ ((stepsL i j).take (t + 1)).map (mkS sc)).map PyData.str = (M0 ++ ((stepsL i j).take t).map (mkS sc)).map PyData.str ++ [.str (sc.ms.getD ((i - (t : Nat)) + (-1)).toNat "")] := by
              have e5 : M0 ++ ((stepsL i j).take (t + 1)).map (mkS sc) = (M0 ++ ((stepsL i j).take t).map (mkS sc)) ++ [mkS sc (i - 1 - (t : Nat), false)] := by
                rw [stt t ht, List.map_append, List.append_assoc]
                rfl
              rw [e5, List.map_append, e3]
              rfl
            have eB : (R0 ++ ((stepsL i j).take (t + 1)).map (psN nm)).map psD = (R0 ++ ((stepsL i j).take t).map (psN nm)).map psD ++ [psD (psN nm (i - 1 - (t : Nat), false))] := by
              have e5 : R0 ++ ((stepsL i j).take (t + 1)).map (psN nm) = (R0 ++ ((stepsL i j).take t).map (psN nm)) ++ [psN nm (i - 1 - (t : Nat), false)] := by
                rw [stt t ht, List.map_append, List.append_assoc]
                rfl
              rw [e5, List.map_append]
              rfl
            rw [eA, eB, ← e2]
            rfl
          · have et : t = (i - j).toNat := by omega
            subst et
            refine (EvT.eq (b' := false) (ev_test (ev_op (ev_v rfl) (ev_v rfl) d_neI)) (by rw [decide_eq_true (by omega)]; rfl)) _ _ (iteF ?_)
            rw [List.take_of_length_le (by omega)]
            exact ⟨_, _, _, _, _, _, rfl⟩
  · obtain ⟨x5, x6, x7, x8, x9, x10, rfl⟩ := hI
    rw [List.length_map, List.take_length]
    refine s_keep (i := 3) rfl (s_keep (i := 4) rfl ?_)
    exact s_ret (Ev.w (ev_lst (ev_cons (ev_v rfl) (ev_cons (ev_v rfl) ev_nil)) rfl (Nat.le_of_ble_eq_true rfl)) ⟨_, rfl, q⟩)
end
end Pb

namespace Pb
open PySem PySem.Spec PyProof.Rows L2 TL
/-! ### sums -/
def vG (ss : List Sec) (q : Str × Int × Bool) : Tri := match ss.find? (fun s => decide (s.nm = q.1)) with
  | some s => addM s (0, 0, 0) (q.2.1, q.2.2)
  | none => (0, 0, 0)
theorem fold_addM (s : Sec) : ∀ (st : List (Int × Bool)) (a : Tri), st.foldl (addM s) a = (a.1 + (st.map fun p => (addM s (0, 0, 0) p).1).sum, a.2.1 + (st.map fun p => (addM s (0, 0, 0) p).2.1).sum, a.2.2 + (st.map fun p => (addM s (0, 0, 0) p).2.2).sum)
  | [], a => by
    show a = (a.1 + 0, a.2.1 + 0, a.2.2 + 0)
    rw [Int.add_zero, Int.add_zero, Int.add_zero]
  | p :: r, a => by
    rw [List.foldl_cons, fold_addM s r (addM s a p), List.map_cons, List.map_cons, List.map_cons, List.sum_cons, List.sum_cons, List.sum_cons]
    have e1 : (addM s a p).1 = a.1 + (addM s (0, 0, 0) p).1 := by
      unfold addM
      dsimp only
      omega
    have e2 : (addM s a p).2.1 = a.2.1 + (addM s (0, 0, 0) p).2.1 := by
      unfold addM
      dsimp only
      omega
    have e3 : (addM s a p).2.2 = a.2.2 + (addM s (0, 0, 0) p).2.2 := by
      unfold addM
      dsimp only
      omega
    rw [e1, e2, e3, Int.add_assoc, Int.add_assoc, Int.add_assoc]
theorem sum_flat {α β : Type} {f : α → Int} {g : α → List β} {v : β → Int} : ∀ {xs : List α}, (∀ x ∈ xs, f x = ((g x).map v).sum) → (xs.map f).sum = ((xs.flatMap g).map v).sum
  | [], _ => rfl
  | x :: r, h => by
    rw [List.map_cons, List.sum_cons, List.flatMap_cons, List.map_append, List.sum_append, h x List.mem_cons_self, sum_flat (xs := r) fun y hy => h y (List.mem_cons_of_mem _ hy)]
theorem find_nm {ss : List Sec} {s : Sec} {nm : Str} (nd : (ss.map Sec.nm).Nodup) (hs : s ∈ ss) (hn : s.nm = nm) : ss.find? (fun s => decide (s.nm = nm)) = some s := by
  cases e : ss.find? (fun s => decide (s.nm = nm)) with
  | none =>
    rw [List.find?_eq_none] at e
    exact absurd (decide_eq_true hn) (e s hs)
  | some t =>
    have h0 := List.find?_some e
    have h1 : t.nm = nm := of_decide_eq_true h0
    rw [name_inj nd (List.mem_of_find?_eq_some e) hs (h1.trans hn.symm)]
theorem m_pass {ss : List Sec} {ls : List Lg} {cl : Option (List Str)} {l : Lg} (nd : (ss.map Sec.nm).Nodup) (h : l ∈ cntL ss ls cl) : (mG ss l).1 = ((passG l).map fun q => (vG ss q).1).sum ∧ (mG ss l).2.1 = ((passG l).map fun q => (vG ss q).2.1).sum ∧ (mG ss l).2.2 = ((passG l).map fun q => (vG ss q).2.2).sum := by
  obtain ⟨_, nm, i, j, s, rfl, hs, hm, hn, _⟩ := cnt_leg h
  have e : mG ss (.leg nm i j) = measL s (stepsL i j) := by
    unfold mG
    rw [hs]
    rfl
  have ev : ∀ p : Int × Bool, vG ss (nm, p.1, p.2) = addM s (0, 0, 0) p := fun p => by
    unfold vG
    dsimp only
    rw [find_nm nd hm hn]
  have e1 := fold_addM s (stepsL i j) (0, 0, 0)
  rw [e]
  unfold measL
  rw [e1]
  unfold passG
  rw [List.map_map, List.map_map, List.map_map]
  dsimp only
  rw [Int.zero_add, Int.zero_add, Int.zero_add]
  refine ⟨?_, ?_, ?_⟩
  · congr 1
    refine List.map_congr_left fun p _ => ?_
    show _ = (vG ss (nm, p.1, p.2)).1
    rw [ev]
  · congr 1
    refine List.map_congr_left fun p _ => ?_
    show _ = (vG ss (nm, p.1, p.2)).2.1
    rw [ev]
  · congr 1
    refine List.map_congr_left fun p _ => ?_
    show _ = (vG ss (nm, p.1, p.2)).2.2
    rw [ev]
theorem sums_pass {ss : List Sec} (nd : (ss.map Sec.nm).Nodup) (ls : List Lg) (cl : Option (List Str)) : sumsL ss ls cl = (((passL ss ls cl).map fun q => (vG ss q).1).sum, ((passL ss ls cl).map fun q => (vG ss q).2.1).sum, ((passL ss ls cl).map fun q => (vG ss q).2.2).sum) := by
  unfold sumsL passL
  rw [sum_flat fun x hx => (m_pass nd hx).1, sum_flat fun x hx => (m_pass nd hx).2.1, sum_flat fun x hx => (m_pass nd hx).2.2]
theorem s_par3 {K : PySem.W.Frag} {od : Md} {Γ : List Sl} {n : Nat} {P : Po} {i j l : Nat} {t : TA} {x y z : PyData} (h : EvA K od t Γ [.da x, .da y, .da z]) (q : P.nx (((Γ.set i (.da x)).set j (.da y)).set l (.da z)) n) : wS K od (tPar3 i j l t) Γ n P := by
  intro F B σ H f g D e
  refine h n (fun r m => r = [.da x, .da y, .da z] ∧ m = n) ⟨rfl, rfl⟩ F B σ H f g _ fun vs H1 rs m F1 hr o1 a1 => ?_
  obtain ⟨rfl, rfl⟩ := hr
  cases a1 with
  | cons a1 a2 _ =>
    obtain ⟨u, w, rfl, b1, b2⟩ := a2.two
    exact ⟨_, u, w, rfl, e.nx F1 _ _ _ _ (o1.gb f) q (((o1.f.setD a1).setD b1).setD b2) o1.g (o1.k.pr g)⟩
abbrev s_l_sums : Stmt := top 42
abbrev n_l_sums : List Str := ["_law_book_here", "_law_rows", "_law_length", "_law_climb", "_law_fall", "_law_name", "_law_number", "_law_forth", "_law_stretch_here", "_law_one"]
abbrev p_l_sums : List Str := ["_law_book_here", "_law_rows"]
theorem sc_l_sums : FnScope n_l_sums p_l_sums (defScope s_l_sums) := ⟨rfl, rfl, rfl, by decide +kernel, rfl, by decide +kernel, by decide +kernel⟩
abbrev s_l_one_by_one : Stmt := top 43
abbrev n_l_one_by_one : List Str := ["_law_book_here", "_law_legs_here", "_law_closed", "_law_found", "_law_leg_here", "_law_one", "_law_section_here"]
abbrev p_l_one_by_one : List Str := ["_law_book_here", "_law_legs_here", "_law_closed"]
theorem sc_l_one_by_one : FnScope n_l_one_by_one p_l_one_by_one (defScope s_l_one_by_one) := ⟨rfl, rfl, rfl, by decide +kernel, rfl, by decide +kernel, by decide +kernel⟩
def sumV (ss : List Sec) (ps : List (Str × Int × Bool)) : Tri := ((ps.map fun q => (vG ss q).1).sum, (ps.map fun q => (vG ss q).2.1).sum, (ps.map fun q => (vG ss q).2.2).sum)
def tr_l_sums : Tr := fun as P => ∃ (ss : List Sec) (r : D3) (ps : List (Str × Int × Bool)), as = [.da (bkD ss r), .da (.list (ps.map psD))] ∧ (BookG ss r ∧ (ss.map Sec.nm).Nodup ∧ (∀ q ∈ ps, ∃ s ∈ ss, s.nm = q.1 ∧ 0 ≤ q.2.1 ∧ q.2.1 < (s.ts.length : Nat))) ∧ P (.da (triD (sumV ss ps)))
def tr_l_one_by_one : Tr := fun as P => ∃ (ss : List Sec) (r : D3) (ls : List Lg) (xs : List Str), as = [.da (bkD ss r), .da (.tuple (ls.map legD)), .da (.tuple (xs.map .str))] ∧ (BookG ss r ∧ (ss.map Sec.nm).Nodup ∧ (∀ l ∈ ls, LgOk l) ∧ ls.length ≤ 1000) ∧ P (.da (triD (sumsL ss ls (some xs))))
theorem filt_one {ss : List Sec} {s : Sec} {nm : Str} (nd : (ss.map Sec.nm).Nodup) (hs : s ∈ ss) (hn : s.nm = nm) : ss.filter (fun t => decide (t.nm = nm)) = [s] := by
  induction ss with
  | nil => cases hs
  | cons x r ih =>
    have nd' := nd
    rw [List.map_cons, List.nodup_cons] at nd
    rw [List.filter_cons]
    rcases List.mem_cons.mp hs with e | z
    · subst e
      rw [if_pos (decide_eq_true hn)]
      congr 1
      rw [List.filter_eq_nil_iff]
      intro t ht h
      exact nd.1 (by rw [hn, ← of_decide_eq_true h]; exact List.mem_map_of_mem ht)
    · have : ¬ decide (x.nm = nm) = true := fun h => nd.1 (by rw [of_decide_eq_true h, ← hn]; exact List.mem_map_of_mem z)
      rw [if_neg this]
      exact ih nd.2 z
section
variable {P : Program} {w : World} {K : PySem.W.Frag} {mg : Str → Option Value} {base : Heap}
theorem kn_l_sums (D : Df K mg "_law_sums" s_l_sums) (B : BW mg) : Kn P w K mg base "_law_sums" 1 p_l_sums (spD K tr_l_sums) := by
  refine D.knD sc_l_sums (fun _ _ _ _ _ _ us hl => match us, hl with | [_, _], _ => rfl) (fun as Q h => by obtain ⟨ss, r, ps, rfl, _⟩ := h; rfl) (fun f cdv A outer s H E gd hr => ?_)
  refine ⟨_, PSs.nox (pss_cons (ps_asg (pe_tup (pa_cons pe_int (pa_cons pe_int (pa_cons pe_int pa_nil)))) (pg_tup rfl (pgs_cons (pg_name (i := 2) sc_l_sums.nd rfl (.inl rfl)) (pgs_cons (pg_name (i := 3) sc_l_sums.nd rfl (.inl rfl)) (pgs_cons (pg_name (i := 4) sc_l_sums.nd rfl (.inl rfl)) pgs_nil))))) (pss_cons (ps_for PassesOwn.never rfl (pi_list (pv 1)) (pg_tup rfl (pgs_cons (pg_name (i := 5) sc_l_sums.nd rfl (.inr rfl)) (pgs_cons (pg_name (i := 6) sc_l_sums.nd rfl (.inr rfl)) (pgs_cons (pg_name (i := 7) sc_l_sums.nd rfl (.inl rfl)) pgs_nil)))) (pss_cons (ps_set (i := 8) sc_l_sums.nd rfl (.inl rfl) (pe_ix ix_list (pe_lc (own := [("_law_one", 9)]) (g := gName 9) (tt := tTest (tOp rEq (tOp (rIxT K) (tVar 9) (tC (.int 0))) (tVar 5))) (te := tOp (rIxT K) (tOp (rIxT K) (tVar 9) (tC (.int 2))) (tVar 6)) rfl sc_l_sums.nd (pi_tup (pe_ix ix_tup (pv 0) pe_int (fun _ _ => rfl))) (blkOk_by (N := n_l_sums) (sc := defScope s_l_sums) (by decide +kernel)) (fun _ _ _ _ _ => (pg_name (i := 9) sc_l_sums.nd rfl (.inl rfl))) (fun _ _ _ _ _ => (pts_one (pt_cmpR op_eq (pe_ix ix_tup (pv 9) pe_int (fun _ _ => rfl)) (pv 5) (nomark _)))) (fun _ _ _ _ _ => (pe_ix ix_tup (pe_ix ix_tup (pv 9) pe_int (fun _ _ => rfl)) (pv 6) (fun _ _ => rfl)))) pe_int (fun _ _ => rfl))) (pss_cons (ps_set (i := 2) sc_l_sums.nd rfl (.inl rfl) (pe_op op_add (pv 2) (pe_ix ix_tup (pv 8) pe_int (fun _ _ => rfl)))) (pss_cons (ps_set (i := 3) sc_l_sums.nd rfl (.inl rfl) (pe_op op_add (pv 3) (pe_ifExp (pt_val (pv 7)) (pe_ix ix_tup (pv 8) pe_int (fun _ _ => rfl)) (pe_ix ix_tup (pv 8) pe_int (fun _ _ => rfl))))) (pss_one (ps_set (i := 4) sc_l_sums.nd rfl (.inl rfl) (pe_op op_add (pv 4) (pe_ifExp (pt_val (pv 7)) (pe_ix ix_tup (pv 8) pe_int (fun _ _ => rfl)) (pe_ix ix_tup (pv 8) pe_int (fun _ _ => rfl)))))))))) (pss_one (ps_ret (pe_tup (pa_cons (pv 2) (pa_cons (pv 3) (pa_cons (pv 4) pa_nil)))))))), fun as Q h => ?_⟩
  try dsimp only [cxOf]
  obtain ⟨ss, r, ps, rfl, ⟨bg, nd, hps⟩, q⟩ := h
  have b8 := bg.l8
  refine s_seq (s_asg (own := [2, 3, 4]) (Ev.w (ev_tup3 ev_int ev_int ev_int) ⟨_, rfl, g_tup rfl (g_cons (g_name (by decide) (g_cons (g_name (by decide) (g_cons (g_name (by decide) (g_nil ?_)))))))⟩))
  refine s_seq (s_for (own := [5, 6, 7]) (f_lstK (ds := ps.map psD) (ev_v rfl) _ _ ⟨fun k Γ' _ => ∃ x5 x6 x7 x8, Γ' = [.da (bkD ss r), .da (.list (ps.map psD)), .da (.int (sumV ss (ps.take k)).1), .da (.int (sumV ss (ps.take k)).2.1), .da (.int (sumV ss (ps.take k)).2.2), x5, x6, x7, x8, .no], ⟨.no, .no, .no, .no, rfl⟩, fun k d Γ' m hd hI => ?_, fun Γ' m hI => ?_⟩))
  · obtain ⟨x5, x6, x7, x8, rfl⟩ := hI
    obtain ⟨⟨nm, kk, fo⟩, hp, rfl⟩ := map_get hd
    obtain ⟨s, hs, hn, k0, k1⟩ := hps _ (List.mem_of_getElem? hp)
    dsimp only at hn k0 k1
    have ev : vG ss (nm, kk, fo) = addM s (0, 0, 0) (kk, fo) := by
      unfold vG
      dsimp only
      rw [find_nm nd hs hn]
    have tk : sumV ss (ps.take (k + 1)) = ((sumV ss (ps.take k)).1 + (s.ts.getD kk.toNat (0, 0, 0)).1, (sumV ss (ps.take k)).2.1 + (if fo = true then (s.ts.getD kk.toNat (0, 0, 0)).2.1 else (s.ts.getD kk.toNat (0, 0, 0)).2.2), (sumV ss (ps.take k)).2.2 + (if fo = true then (s.ts.getD kk.toNat (0, 0, 0)).2.2 else (s.ts.getD kk.toNat (0, 0, 0)).2.1)) := by
      have e0 : ps.take (k + 1) = ps.take k ++ [(nm, kk, fo)] := by
        rw [List.take_add_one, hp]
        rfl
      unfold sumV
      rw [e0, List.map_append, List.map_append, List.map_append, List.sum_append, List.sum_append, List.sum_append]
      show (_ + ((vG ss (nm, kk, fo)).1 + 0), _ + ((vG ss (nm, kk, fo)).2.1 + 0), _ + ((vG ss (nm, kk, fo)).2.2 + 0)) = _
      rw [ev, Int.add_zero, Int.add_zero, Int.add_zero]
      unfold addM
      dsimp only
      rw [Int.zero_add, Int.zero_add, Int.zero_add]
    generalize sumV ss (ps.take k) = acc at tk
    refine g_tup rfl (g_cons (g_name (by decide) (g_cons (g_name (by decide) (g_cons (g_name (by decide) (g_nil ?_)))))))
    have hix : ∀ t ∈ ss, t.nm = nm → atI (t.ts.map triD) kk = some (triD (t.ts.getD kk.toNat (0, 0, 0))) := fun t ht hn2 => by
      have e : t = s := name_inj nd ht hs (hn2.trans hn.symm)
      subst e
      obtain ⟨n, rfl⟩ : ∃ n : Nat, kk = (n : Int) := ⟨_, (Int.toNat_of_nonneg k0).symm⟩
      have hn3 : n < t.ts.length := by omega
      refine atI_nat ?_
      rw [List.getElem?_map, List.getElem?_eq_getElem hn3, Int.toNat_natCast, List.getD_eq_getElem?_getD, List.getElem?_eq_getElem hn3]
      rfl
    refine s_seq (s_set (Ev.w (ev_op (ev_lc (xs := ss) (enc := secD) (p := fun t => decide (t.nm = nm)) (f := fun t => triD (t.ts.getD kk.toNat (0, 0, 0))) (rr := fun t => .da (triD (t.ts.getD kk.toNat (0, 0, 0)))) (i_tup (ev_op (ev_v rfl) ev_int (d_ixT rfl))) (by omega) (fun x hx N hN => g_name (by decide) hN) (fun x hx => (ev_test (ev_op (ev_op (ev_v rfl) ev_int (d_ixT rfl)) (ev_v rfl) d_eqS))) (fun x hx hp => ev_op (ev_op (ev_v rfl) ev_int (d_ixT (d := .tuple (x.ts.map triD)) rfl)) (ev_v rfl) (d_ixT (hix x hx (of_decide_eq_true hp)))) (fun x hx hp => rfl)) ev_int (d_ixL (d := triD (s.ts.getD kk.toNat (0, 0, 0))) rfl (by rw [filt_one nd hs hn]; rfl))) ?_))
    refine s_seq (s_set (Ev.w (ev_op (ev_v rfl) (ev_op (ev_v rfl) ev_int (d_ixT rfl)) d_ii) ?_))
    refine s_seq (s_set (Ev.w (ev_op (ev_v rfl) (Ev.eq (b' := .da (.int (if fo = true then (s.ts.getD kk.toNat (0, 0, 0)).2.1 else (s.ts.getD kk.toNat (0, 0, 0)).2.2))) (ev_if (ev_tB (ev_v rfl)) (fun hc => (ev_op (ev_v rfl) ev_int (d_ixT rfl))) (fun hc => (ev_op (ev_v rfl) ev_int (d_ixT rfl)))) (by cases fo <;> rfl)) d_ii) ?_))
    refine s_set (Ev.w (ev_op (ev_v rfl) (Ev.eq (b' := .da (.int (if fo = true then (s.ts.getD kk.toNat (0, 0, 0)).2.2 else (s.ts.getD kk.toNat (0, 0, 0)).2.1))) (ev_if (ev_tB (ev_v rfl)) (fun hc => (ev_op (ev_v rfl) ev_int (d_ixT rfl))) (fun hc => (ev_op (ev_v rfl) ev_int (d_ixT rfl)))) (by cases fo <;> rfl)) d_ii) ?_)
    dsimp only
    rw [tk]
    exact ⟨_, _, _, _, rfl⟩
  · obtain ⟨x5, x6, x7, x8, rfl⟩ := hI
    rw [List.length_map, List.take_length]
    exact s_ret (Ev.w (ev_tup (ev_cons (ev_v rfl) (ev_cons (ev_v rfl) (ev_cons (ev_v rfl) ev_nil))) rfl (Nat.le_of_ble_eq_true rfl)) ⟨_, rfl, q⟩)
theorem kn_l_one_by_one (D : Df K mg "_law_one_by_one" s_l_one_by_one) (B : BW mg) (k_l_counted : Kn P w K mg base "_law_counted" 3 p_l_counted (spD K tr_l_counted)) (k_measure : Kn P w K mg base "measure" 2 p_measure (spD K tr_measure)) : Kn P w K mg base "_law_one_by_one" 4 p_l_one_by_one (spD K tr_l_one_by_one) := by
  refine D.knD sc_l_one_by_one (fun _ _ _ _ _ _ us hl => match us, hl with | [_, _, _], _ => rfl) (fun as Q h => by obtain ⟨ss, r, l, xs, rfl, _⟩ := h; rfl) (fun f cdv A outer s H E gd hr => ?_)
  refine ⟨_, PSs.nox (pss_cons (ps_set (i := 3) sc_l_one_by_one.nd rfl (.inl rfl) (pe_tup (pa_cons pe_int (pa_cons pe_int (pa_cons pe_int pa_nil))))) (pss_cons (ps_for PassesOwn.never rfl (pi_list (pe_kn k_l_counted gd (hr.mono (by decide)) rfl (pa_cons (pv 0) (pa_cons (pv 1) (pa_cons (pv 2) pa_nil))))) (pg_name (i := 4) sc_l_one_by_one.nd rfl (.inr rfl)) (pss_cons (ps_set (i := 5) sc_l_one_by_one.nd rfl (.inl rfl) (pe_kn k_measure gd (hr.mono (by decide)) rfl (pa_cons (pe_ix ix_list (pe_lc (own := [("_law_section_here", 6)]) (g := gName 6) (tt := tTest (tOp rEq (tOp (rIxT K) (tVar 6) (tC (.int 0))) (tOp (rIxT K) (tVar 4) (tC (.int 0))))) (te := tVar 6) rfl sc_l_one_by_one.nd (pi_tup (pe_ix ix_tup (pv 0) pe_int (fun _ _ => rfl))) (blkOk_by (N := n_l_one_by_one) (sc := defScope s_l_one_by_one) (by decide +kernel)) (fun _ _ _ _ _ => (pg_name (i := 6) sc_l_one_by_one.nd rfl (.inl rfl))) (fun _ _ _ _ _ => (pts_one (pt_cmpR op_eq (pe_ix ix_tup (pv 6) pe_int (fun _ _ => rfl)) (pe_ix ix_tup (pv 4) pe_int (fun _ _ => rfl)) (nomark _)))) (fun _ _ _ _ _ => (pv 6))) pe_int (fun _ _ => rfl)) (pa_cons (pv 4) pa_nil)))) (pss_one (ps_set (i := 3) sc_l_one_by_one.nd rfl (.inl rfl) (pe_tup (pa_cons (pe_op op_add (pe_ix ix_tup (pv 3) pe_int (fun _ _ => rfl)) (pe_ix ix_tup (pv 5) pe_int (fun _ _ => rfl))) (pa_cons (pe_op op_add (pe_ix ix_tup (pv 3) pe_int (fun _ _ => rfl)) (pe_ix ix_tup (pv 5) pe_int (fun _ _ => rfl))) (pa_cons (pe_op op_add (pe_ix ix_tup (pv 3) pe_int (fun _ _ => rfl)) (pe_ix ix_tup (pv 5) pe_int (fun _ _ => rfl))) pa_nil)))))))) (pss_one (ps_ret (pv 3))))), fun as Q h => ?_⟩
  try dsimp only [cxOf]
  obtain ⟨ss, r, ls, xs, rfl, ⟨bg, nd, lo, ll⟩, q⟩ := h
  have b8 := bg.l8
  refine s_seq (s_set (Ev.w (ev_tup (ev_cons ev_int (ev_cons ev_int (ev_cons ev_int ev_nil))) rfl (Nat.le_of_ble_eq_true rfl)) ?_))
  refine s_seq (s_for (own := [4]) (f_lstN (ev_call (ev_cons (ev_v rfl) (ev_cons (ev_v rfl) (ev_cons (ev_v rfl) ev_nil))) rfl (fun _ hp => ⟨_, _, _, _, rfl, (⟨bg, lo, ll⟩), hp⟩)) _ _ ⟨fun k Γ' _ => ∃ x4 x5, Γ' = [.da (bkD ss r), .da (.tuple (ls.map legD)), .da (.tuple (xs.map .str)), .da (triD ((((cntL ss ls (some xs)).take k).map fun l => (mG ss l).1).sum, (((cntL ss ls (some xs)).take k).map fun l => (mG ss l).2.1).sum, (((cntL ss ls (some xs)).take k).map fun l => (mG ss l).2.2).sum)), x4, x5, .no], ⟨.no, .no, rfl⟩, fun k d Γ' m hd hI => ?_, fun Γ' m hI => ?_⟩))
  · obtain ⟨x4, x5, rfl⟩ := hI
    obtain ⟨l, hl, rfl⟩ := map_get hd
    obtain ⟨lmem, nm, i, j, s, rfl, hs, hm, hn, hh⟩ := cnt_leg (List.mem_of_getElem? hl)
    have lk := lo _ lmem
    have em : mG ss (.leg nm i j) = measL s (stepsL i j) := by
      unfold mG
      rw [hs]
      rfl
    have tk : ∀ g : Tri → Int, (((cntL ss ls (some xs)).take (k + 1)).map fun l => g (mG ss l)).sum = (((cntL ss ls (some xs)).take k).map fun l => g (mG ss l)).sum + g (measL s (stepsL i j)) := fun g => by
      rw [List.take_add_one, hl, List.map_append, List.sum_append]
      show _ + (g (mG ss (.leg nm i j)) + 0) = _
      rw [em, Int.add_zero]
    refine g_name (by decide) ?_
    refine s_seq (s_set (Ev.w (ev_call (ev_cons (ev_op (ev_lc (xs := ss) (enc := secD) (p := fun t => decide (t.nm = nm)) (f := secD) (rr := fun t => .da (secD t)) (i_tup (ev_op (ev_v rfl) ev_int (d_ixT rfl))) (by omega) (fun x hx N hN => g_name (by decide) hN) (fun x hx => (ev_test (ev_op (ev_op (ev_v rfl) ev_int (d_ixT rfl)) (ev_op (ev_v rfl) ev_int (d_ixT rfl)) d_eqS))) (fun x hx hp => ev_v rfl) (fun x hx hp => rfl)) ev_int (d_ixL (d := secD s) rfl (by rw [filt_one nd hm hn]; rfl))) (ev_cons (ev_v rfl) ev_nil)) rfl (fun _ hp => ⟨s, nm, i, j, rfl, ⟨bg.ss s hm, lk.2, hh⟩, hp⟩)) ?_))
    refine s_set (Ev.w (ev_tup3 (ev_op (ev_op (ev_v rfl) ev_int (d_ixT rfl)) (ev_op (ev_v rfl) ev_int (d_ixT rfl)) d_ii) (ev_op (ev_op (ev_v rfl) ev_int (d_ixT rfl)) (ev_op (ev_v rfl) ev_int (d_ixT rfl)) d_ii) (ev_op (ev_op (ev_v rfl) ev_int (d_ixT rfl)) (ev_op (ev_v rfl) ev_int (d_ixT rfl)) d_ii)) ?_)
    dsimp only
    rw [tk fun t => t.1, tk fun t => t.2.1, tk fun t => t.2.2]
    exact ⟨_, _, rfl⟩
  · obtain ⟨x4, x5, rfl⟩ := hI
    rw [List.length_map, List.take_length]
    exact s_ret (Ev.w (ev_v rfl) ⟨_, rfl, q⟩)
end
end Pb

namespace Pb
open PySem PySem.Spec PyProof.Rows L2 TL
abbrev rInsert : V → List V → Hp → VK → Prop := fun x vs H Q => ∃ (l : Addr) (xs : List V) (i : Int) (y : V), x = .ref l ∧ vs = [.int i, y] ∧ H l = some (.lst xs) ∧ xs.length < sizeLine ∧ 0 ≤ i ∧ i < 2 ^ 63 ∧ Q .non (upd H l (.lst (xs.take i.toNat ++ [y] ++ xs.drop i.toNat)))
section
variable {K : PySem.W.Frag} {F B : Addr → Prop} {Γ : List Sl} {σ : L2.St} {H : Hp} {n m : Nat} {P : Po}
theorem g_lst {od : Md} {m : Nat} {gs : TGs} {own : List Nat} {ds : List PyData} {N : List Sl → Prop} (hm : ds.length = m) (h : wTgs K od gs own ds Γ N) : wTg K od (gLst K m gs) own (.list ds) Γ N := by
  intro F B v σ H f hd k c
  obtain ⟨a, vs, rfl, e, _, t⟩ := hd.lst'
  exact ⟨a, vs, rfl, .of e, by rw [t.len]; exact hm, h F B vs σ H f t k c⟩
theorem avnl3 {a b c : PyData} (h1 : NoL a) (h2 : NoL b) (h3 : NoL c) : AvNL [.da a, .da b, .da c] := by
  intro x hx
  simp only [List.mem_cons, List.not_mem_nil, or_false] at hx
  rcases hx with rfl | rfl | rfl
  · exact .inr ⟨_, rfl, h1⟩
  · exact .inr ⟨_, rfl, h2⟩
  · exact .inr ⟨_, rfl, h3⟩
/-- a list of lists and a list are told, looked at, and changed then -/
theorem s_told2 {i j : Nat} {T : Tr} {ta : TA} {E : XK} {t2 : TE} {tt1 tt2 : TT} {tr1 tr2 rest : TS} {rs : List Rs} {dss : List (List PyData)} {es : List PyData} (hij : i ≠ j) (hi : i < Γ.length) (hj : j < Γ.length)
    (h : EvA K none ta Γ rs) (nd : noDw rs = true) (nl : AvNL (rs.map Rs.av)) (hT : ∀ Q : Rs → Prop, Q (.fr (dss.map .list)) → T (rs.map Rs.av) Q) (h2 : Ev K none t2 Γ (.fr es)) (hd : dss.length < 20000) (hds : ∀ d ∈ dss, d.length < 20000) (hes : es.length < 20000)
    (ht1 : EvT K none tt1 ((Γ.set i (.own (dss.map .list))).set j (.own es)) false) (ht2 : EvT K none tt2 ((Γ.set i (.own (dss.map .list))).set j (.own es)) false) (hr : wS K none rest ((Γ.set i .no).set j .no) n P) :
    wS K none (tSeq (tPar i j (tCons (tCall (spD K T) [] E ta) (tCons t2 tNil))) (tSeq (tIfS tt1 tr1 tNext) (tSeq (tIfS tt2 tr2 tNext) (tSeq (tDrop (tBM K "list" rAppend (tVar i) (tCons (tLst (tCons (tC (.str "told")) tNil)) tNil))) (tSeq (tDrop (tBM K "list" rAppend (tOp (rIxL K) (tVar i) (tC (.int 0))) (tCons (tC (.str "told")) tNil))) (tSeq (tDrop (tBM K "list" rInsert (tVar j) (tCons (tC (.int 0)) (tCons (tTup (tCons (tC (.str "told")) (tCons (tC (.int 0)) (tCons (tC (.bl true)) tNil)))) tNil)))) rest)))))) Γ n P := by
  intro F B σ H f g D e
  refine h 0 (fun r m' => r = rs ∧ m' = 0) ⟨rfl, rfl⟩ F B σ H f trivial _ fun vs H1 rs' m' F1 q o1 a1 => ?_
  obtain ⟨rfl, rfl⟩ := q
  show spD K T (vs ++ []) H1 _ E
  rw [List.append_nil]
  refine ⟨fun _ => False, _, fun r => r = .fr (dss.map .list), (fun _ z => z.elim), ((a1.av.plain (noDw_av nd)).noL nl), hT _ rfl, fun v H2 r F2 hq gr2 dF2 sm2 out => ?_⟩
  subst hq
  obtain ⟨x, rfl, lk, nx, nfx⟩ := out
  have new2 : ∀ b, F2 b → H1 b = none := fun b z => (gr2.2 b z).elim (fun q => q.elim) id
  have k2 : Kx none H1 H2 := sm2
  -- the slot of the told ones, kept
  have gr12 : Gr F1 H1 (fun b => F1 b ∨ F2 b) := ⟨fun _ q => .inl q, fun c q => q.elim .inl fun q => .inr (new2 c q)⟩
  have d12 : ∀ c, (F1 c ∨ F2 c) → H2 c ≠ none := fun c q => q.elim (fun q => k2.some (m := 0) trivial (o1.f.domF c q)) (dF2 c)
  have f12 := o1.f.kg k2 (n := 0) (m := 0) trivial trivial gr12 d12
  have fA := f12.setR (i := i) (r := .fr (dss.map .list)) (v := .ref x) o1.f ⟨x, rfl, lk.mono fun _ q => .inr q, nx, fun q => q.elim (fun q => o1.f.domF x q nx) nfx, fun q => o1.f.dom x q nx⟩
  have f2 := o1.f.kx k2 (n := 0) (m := 0) trivial trivial
  refine h2 0 (fun r m' => r = .fr es ∧ m' = 0) ⟨rfl, rfl⟩ F1 B σ H2 f2 trivial _ fun v2 H3 r2 m2 F3 q2 o3 a3 => ?_
  obtain ⟨rfl, rfl⟩ := q2
  obtain ⟨c, rfl, lc, nc, nfc, nbc⟩ := a3
  have sm3 : Same H2 H3 := o3.k
  have gr4 : Gr (fun b => F1 b ∨ F2 b) H2 (fun b => F3 b ∨ F2 b) := ⟨fun b z => z.elim (fun z => .inl (o3.gr.1 b z)) .inr, fun b z => z.elim (fun z => (o3.gr.2 b z).elim (fun z => .inl (.inl z)) .inr) fun z => .inl (.inr z)⟩
  have d4 : ∀ b, (F3 b ∨ F2 b) → H3 b ≠ none := fun b z => z.elim (o3.f.domF b) fun z => (Same.kx (od := none) sm3).some (m := 0) trivial (dF2 b z)
  have fB := fA.kg (Same.kx (od := none) sm3) (n := 0) (m := 0) trivial trivial gr4 d4
  have fT := fB.setR (i := j) (r := .fr es) (v := .ref c) fA ⟨c, rfl, lc.mono fun _ q => .inl q, nc, fun q => q.elim nfc fun q => dF2 c q nc, nbc⟩
  refine ⟨.ref x, .ref c, rfl, ?_⟩
  have fN : Fits K none F3 B ((Γ.set i .no).set j .no) ((σ.set i (some (.ref x))).set j (some (.ref c))) H3 := (o3.f.setN (i := i) (v := some (.ref x))).setN (i := j) (v := some (.ref c))
  have len : Γ.length = σ.length := f.len
  have ei : ((σ.set i (some (V.ref x))).set j (some (.ref c)))[i]? = some (some (.ref x)) := by
    rw [List.getElem?_set_ne (Ne.symm hij), List.getElem?_set_self (by omega)]
  have ej : ((σ.set i (some (V.ref x))).set j (some (.ref c)))[j]? = some (some (.ref c)) := by
    rw [List.getElem?_set_self (by rw [List.length_set]; omega)]
  have noL : ∀ (y : Addr), H1 y = none → ∀ k, LstS ((Γ.set i .no).set j .no) k → ((σ.set i (some (V.ref x))).set j (some (.ref c)))[k]? ≠ some (some (.ref y)) := fun y ny k hk ek => by
    obtain ⟨hk1, hjk⟩ := lst_no hk
    obtain ⟨hk2, hik⟩ := lst_no hk1
    rw [List.getElem?_set_ne hjk, List.getElem?_set_ne hik] at ek
    exact o1.f.lstAt hk2 ek ny
  generalize (σ.set i (some (V.ref x))).set j (some (.ref c)) = σ' at fT fN ei ej noL
  refine ht1 0 (fun c m' => c = false ∧ m' = 0) ⟨rfl, rfl⟩ _ B σ' H3 fT trivial _ fun b4 H4 m4 F4 q4 o4 => ?_
  obtain ⟨rfl, rfl⟩ := q4
  refine iteF ?_
  refine ht2 0 (fun c m' => c = false ∧ m' = 0) ⟨rfl, rfl⟩ _ B σ' H4 o4.f trivial _ fun b5 H5 m5 F5 q5 o5 => ?_
  obtain ⟨rfl, rfl⟩ := q5
  refine iteF ?_
  have s35 : Same H3 H5 := Same.trans o4.k o5.k
  have f5 := fN.kx (Same.kx (od := none) s35) (n := 0) (m := 0) trivial trivial
  obtain ⟨ws, ex2, tw⟩ := lk
  obtain ⟨us, ec3, tu⟩ := lc
  have s25 : Same H2 H5 := Same.trans sm3 s35
  have ex5 := s25 _ _ ex2
  have ec5 := s35 _ _ ec3
  have nf3x : ¬ F3 x := fun z => (o3.gr.2 x z).elim (fun q => o1.f.domF x q nx) fun q => by rw [ex2] at q; cases q
  have nbx : ¬ B x := fun q => o1.f.dom x q nx
  have s15 : Same H1 H5 := Same.trans sm2 s25
  have gb : GB F B F3 := (o1.gb f).trans (o3.gb f2)
  have pr5 : Pr none F B H H5 := Kx.pr (od := none) (n := 0) (Same.trans o1.k s15) trivial
  have back : ∀ {Ha Hb : Hp}, Same Ha Hb → ∀ y, Hb y = none → Ha y = none := fun {Ha Hb} s y hy => by
    cases e : Ha y with
    | none => rfl
    | some o =>
      rw [s _ _ e] at hy
      cases hy
  have wl : ws.length = dss.length := by
    have := tw.len
    rw [List.length_map] at this
    exact this
  have ul : us.length = es.length := tu.len
  have l1 : (1 : Nat) ≤ sizeLine := by decide
  refine ⟨.ref x, ei, .inl ⟨rfl, _, .of ex5⟩, l1, fun p np => ?_⟩
  have xp : x ≠ p := fun z => by
    rw [← z, ex5] at np
    cases np
  have cp : c ≠ p := fun z => by
    rw [← z, ec5] at np
    cases np
  obtain ⟨s6, e6⟩ := nxo (o := .lst [.str "told"]) np
  have ex6 : upd H5 p (.lst [.str "told"]) x = some (.lst ws) := by
    rw [upd_ne xp]
    exact ex5
  refine ⟨x, ws, .ref p, rfl, rfl, ex6, len20k (by omega), ?_⟩
  have f6 := f5.kx (Same.kx (od := none) s6) (n := 0) (m := 0) trivial trivial
  have f7 := f6.out (us := ws ++ [.ref p]) ex6 nf3x nbx (noL x nx)
  have ex7 : upd (upd H5 p (.lst [.str "told"])) x (.lst (ws ++ [.ref p])) x = some (.lst (ws ++ [.ref p])) := upd_same
  have pr7 : Pr none F B H (upd (upd H5 p (.lst [.str "told"])) x (.lst (ws ++ [.ref p]))) := (pr5.trans ((Same.kx (od := none) s6).pr (n := 0) trivial)).trans (Pr.chg gb.1 nf3x nbx ex6)
  have hz : ∃ (z : Addr) (zs : List V), atI (ws ++ [V.ref p]) 0 = some (.ref z) ∧ upd (upd H5 p (.lst [.str "told"])) x (.lst (ws ++ [.ref p])) z = some (.lst zs) ∧ zs.length < 20000 ∧ H1 z = none ∧ ¬ F3 z ∧ ¬ B z ∧ z ≠ c := by
    cases dss with
    | nil =>
      cases tw
      refine ⟨p, [.str "told"], rfl, ?_, by decide, back s15 p np, fun z => o3.f.domF p z (back s35 p np), fun z => o3.f.dom p z (back s35 p np), Ne.symm cp⟩
      rw [upd_ne (Ne.symm xp)]
      exact e6
    | cons d ds =>
      cases tw with
      | cons hd tl =>
        obtain ⟨z, zs, rfl, ez, fz, tz⟩ := Dk.lst' hd
        have zx : z ≠ x := fun q => nfx (by rw [← q]; exact fz)
        have ez5 := s25 _ _ ez
        have zp : z ≠ p := fun q => by
          rw [← q, ez5] at np
          cases np
        refine ⟨z, zs, atI_nat (j := 0) rfl, ?_, by rw [tz.len]; exact hds d List.mem_cons_self, new2 z fz, fun q => ?_, fun q => o1.f.dom z q (new2 z fz), fun q => ?_⟩
        · rw [upd_ne zx, upd_ne zp]
          exact ez5
        · rcases o3.gr.2 z q with q | q
          · exact o1.f.domF z q (new2 z fz)
          · rw [ez] at q
            cases q
        · rw [q, nc] at ez
          cases ez
  obtain ⟨z, zs, az, ez7, zl, nz1, nfz, nbz, zc⟩ := hz
  refine ⟨.ref x, ei, x, _, 0, .ref z, rfl, rfl, .of ex7, az, .inl ⟨rfl, _, .of ez7⟩, ?_⟩
  refine ⟨z, zs, .str "told", rfl, rfl, ez7, len20k (by omega), ?_⟩
  have cx : c ≠ x := fun q => by
    rw [q, ex2] at nc
    cases nc
  have ec7 : upd (upd H5 p (.lst [.str "told"])) x (.lst (ws ++ [.ref p])) c = some (.lst us) := by
    rw [upd_ne cx, upd_ne cp]
    exact ec5
  have f8 := f7.out (us := zs ++ [.str "told"]) ez7 nfz nbz (noL z nz1)
  have pr8 := pr7.trans (Pr.chg (us := zs ++ [.str "told"]) gb.1 nfz nbz ez7)
  have ec8 : upd (upd (upd H5 p (.lst [.str "told"])) x (.lst (ws ++ [.ref p]))) z (.lst (zs ++ [.str "told"])) c = some (.lst us) := by
    rw [upd_ne (Ne.symm zc)]
    exact ec7
  generalize upd (upd (upd H5 p (.lst [.str "told"])) x (.lst (ws ++ [.ref p]))) z (.lst (zs ++ [.str "told"])) = H8 at f8 pr8 ec8
  have l3 : (3 : Nat) ≤ sizeLine := by decide
  refine ⟨.ref c, ej, .inl ⟨rfl, _, .of ec8⟩, l3, fun q nq => ?_⟩
  obtain ⟨s9, e9⟩ := nxo (o := .tup [.str "told", .int 0, .bl true]) nq
  have ec9 := s9 _ _ ec8
  refine ⟨c, us, 0, .ref q, rfl, rfl, ec9, len20k (by omega), by decide, by decide, ?_⟩
  have f9 := f8.kx (Same.kx (od := none) s9) (n := 0) (m := 0) trivial trivial
  have f10 := f9.out (us := us.take (0 : Int).toNat ++ [.ref q] ++ us.drop (0 : Int).toNat) ec9 nfc nbc (noL c (back sm2 c nc))
  have pr10 := (pr8.trans ((Same.kx (od := none) s9).pr (n := 0) trivial)).trans (Pr.chg (us := us.take (0 : Int).toNat ++ [.ref q] ++ us.drop (0 : Int).toNat) gb.1 nfc nbc ec9)
  exact hr F3 B σ' _ f10 trivial D (e.go gb pr10)
end
end Pb

namespace Pb
open PySem PySem.Spec PyProof.Rows L2 TL
theorem sm_bl (b : Bool) : Sm 0 0 (.bool b) := by
  cases b
  · exact ⟨by decide, by decide, rfl, Nat.le_refl _, Nat.le_refl _⟩
  · exact ⟨by decide, by decide, rfl, Nat.le_refl _, Nat.le_refl _⟩
theorem sec_nl (s : Sec) : NoL (secD s) := .tup (.cons (.str _) (.cons (NoL.strs _) (.cons (.tup (.map _ fun t _ => .tup (.cons (.int _) (.cons (.int _) (.cons (.int _) .nil))))) .nil)))
theorem bk_nl {ss : List Sec} {r : D3} (h : R3Ok r) : NoL (bkD ss r) := .tup (.cons (.tup (.map ss fun s _ => sec_nl s)) (.cons h.n1 (.cons h.n2 (.cons h.n3 .nil))))
theorem leg_nl (l : Lg) : NoL (legD l) := by
  cases l with
  | ride => exact .tup (.cons (.str _) .nil)
  | leg nm i j => exact .tup (.cons (.str _) (.cons (.int _) (.cons (.int _) .nil)))
theorem leg_sm {l : Lg} (h : LgOk l) : Sm 20 1 (legD l) := by
  cases l with
  | ride => exact (Sm.tup (.cons (sm_sh (j := 8) ⟨by decide +kernel, by decide +kernel⟩) .nil)).le (by decide) (by decide)
  | leg nm i j => exact (Sm.tup (.cons (sm_sh h.1) (.cons (.int (by have := h.2; omega)) (.cons (.int (by have := h.2; omega)) .nil)))).le (by decide) (by decide)
theorem legs_sm {ls : List Lg} (h : ∀ l ∈ ls, LgOk l) (hl : ls.length ≤ 100) : Sm 2100 2 (.tuple (ls.map legD)) := .tup (sm_map ls (fun l hl => leg_sm (h l hl)) hl)
theorem sec_sm {s : Sec} (h : SecK s) : Sm 200 3 (secD s) := by
  have t8 : s.ts.length ≤ 8 := by
    have := h.l1
    have := h.l8
    omega
  exact (Sm.tup (.cons (sm_sh h.nm.sh) (.cons (sm_strs h.mn h.l8) (.cons (.tup (sm_map (n := 3) (k := 1) s.ts (fun t ht => by obtain ⟨a, b, c, d, e, f⟩ := h.ok t ht; exact .tup (.cons (.int (by omega)) (.cons (.int (by omega)) (.cons (.int (by omega)) .nil)))) t8)) .nil)))).le (by decide) (by decide)
theorem bk_sm {ss : List Sec} {r : D3} (h : BookG ss r) : Sm 5000 5 (bkD ss r) := (Sm.tup (.cons (.tup (sm_map ss (fun s hs => sec_sm (h.ss s hs)) h.l8)) (.cons h.r.h (.cons h.r.b (.cons h.r.g .nil))))).le (by decide) (by decide)
theorem eqv_tri (t : Tri) : PyData.eqv (triD t) (triD t) = true := by
  obtain ⟨a, b, c⟩ := t
  show (PyData.eqv (.int a) (.int a) && (PyData.eqv (.int b) (.int b) && (PyData.eqv (.int c) (.int c) && true))) = true
  have e : ∀ i : Int, PyData.eqv (.int i) (.int i) = true := fun i => by
    unfold PyData.eqv
    simp
  rw [e, e, e]
  rfl
theorem tri_shp (t : Tri) : SeqAt.shaped (triD t) = true := (Ly.tup (.cons (.int _) (.cons (.int _) (.cons (.int _) .nil)))).shp (by decide)
theorem rows_flat (R : List (List Lg)) : R.flatMap (fun run => run.flatMap passG) = R.flatten.flatMap passG := by
  induction R with
  | nil => rfl
  | cons r q ih => rw [List.flatMap_cons, List.flatten_cons, List.flatMap_append, ih]
theorem law_rows (ss : List Sec) (ls : List Lg) (xs : List Str) : (lawRuns ss ls xs).flatMap (fun run => run.flatMap passG) = passL ss ls (some xs) := by
  rw [rows_flat]
  unfold lawRuns passL cntL
  split
  · unfold grp
    rw [fold_flatG]
    rfl
  · rfl
theorem law_ways (ss : List Sec) (ls : List Lg) (xs : List Str) : (lawRuns ss ls xs).map (runM ss (some xs)) = trailL ss ls (some xs) := by
  unfold lawRuns trailL
  split
  · rfl
  · rfl
theorem runs_in {ss : List Sec} {ls : List Lg} {xs : List Str} {run : List Lg} (h : run ∈ lawRuns ss ls xs) : (∀ l ∈ run, l ∈ ls ∧ cntP ss (some xs) l = true) ∧ run.length ≤ ls.length := by
  unfold lawRuns at h
  split at h
  · unfold grp at h
    obtain ⟨h1, h2⟩ := flat_in h
    rw [fold_flatG] at h1 h2
    have e : (runsOf (([], none) : List (List Lg) × Option (List Lg))).flatten ++ ls.filter (cntP ss (some xs)) = ls.filter (cntP ss (some xs)) := rfl
    rw [e] at h1 h2
    refine ⟨fun l hl => List.mem_filter.mp (h2 l hl), ?_⟩
    have := List.length_filter_le (cntP ss (some xs)) ls
    omega
  · cases h
theorem runs_many (ss : List Sec) (ls : List Lg) (xs : List Str) : (lawRuns ss ls xs).length ≤ ls.length := by
  unfold lawRuns
  split
  · unfold grp
    have h1 : (runsOf (ls.foldl (stG (cntP ss (some xs))) ([], none))).length ≤ _ := flat_many (fold_ne _ _ _ fun r z => nomatch z)
    rw [fold_flatG] at h1
    have e : (runsOf (([], none) : List (List Lg) × Option (List Lg))).flatten ++ ls.filter (cntP ss (some xs)) = ls.filter (cntP ss (some xs)) := rfl
    rw [e] at h1
    have := List.length_filter_le (cntP ss (some xs)) ls
    omega
  · exact Nat.zero_le _
theorem pass_in {ss : List Sec} {ls : List Lg} {cl : Option (List Str)} (bg : ∀ s ∈ ss, SecK s) (lo : ∀ l ∈ ls, LgOk l) {q : Str × Int × Bool} (h : q ∈ passL ss ls cl) : (∃ s ∈ ss, s.nm = q.1 ∧ 0 ≤ q.2.1 ∧ q.2.1 < (s.ts.length : Nat)) ∧ q.2.1 ≤ 7 ∧ Sh 8 q.1 := by
  obtain ⟨l, hl, hq⟩ := List.mem_flatMap.mp h
  obtain ⟨p, hp, rfl⟩ := List.mem_map.mp hq
  obtain ⟨h1, nm, i, j, s, rfl, hs, hm, hn, hh⟩ := cnt_leg hl
  have lk := lo _ h1
  obtain ⟨p0, p1⟩ := steps_in lk.2.1 lk.2.2.2.1 p hp
  have hl1 := (bg s hm).l1
  have hh7 : hiI i j ≤ 7 := by
    unfold hiI
    split
    · exact lk.2.2.2.2
    · exact lk.2.2.1
  exact ⟨⟨s, hm, hn, p0, by show p.1 < _; omega⟩, by show p.1 ≤ 7; omega, lk.1⟩
theorem pass_many {ss : List Sec} {ls : List Lg} {cl : Option (List Str)} (lo : ∀ l ∈ ls, LgOk l) : (passL ss ls cl).length ≤ 7 * ls.length := by
  have c := cnt_le ss ls cl
  have h := flat_len (k := 7) (xs := cntL ss ls cl) (f := passG) fun x hx => pass_len (lo x (cnt_leg hx).1)
  have e : passL ss ls cl = (cntL ss ls cl).flatMap passG := rfl
  rw [e]
  exact Nat.le_trans h (Nat.mul_le_mul_left 7 c)
theorem pas_sm {ss : List Sec} {ls : List Lg} {cl : Option (List Str)} (bg : ∀ s ∈ ss, SecK s) (lo : ∀ l ∈ ls, LgOk l) (hl : ls.length ≤ 100) : Sm 20000 2 (.list ((passL ss ls cl).map psD)) := by
  refine (Sm.lst (sm_map (n := 20) (k := 1) (m := 700) _ (fun q hq => ?_) (by have := pass_many (ss := ss) (cl := cl) lo; omega))).le (by decide) (by decide)
  obtain ⟨⟨s, _, _, h0, _⟩, h7, sh⟩ := pass_in bg lo hq
  exact (Sm.tup (.cons (sm_sh sh) (.cons (.int (by omega)) (.cons (sm_bl _) .nil)))).le (by decide) (by decide)
theorem way_sm {ms : List Str} (h : ∀ y ∈ ms, Sh 8 y) (hl : ms.length ≤ 800) : Sm 7200 1 (wayD ms) := .lst (sm_map ms (fun y hy => sm_sh (h y hy)) hl)
theorem trail_in {ss : List Sec} {r : D3} {ls : List Lg} {cl : Option (List Str)} (bg : BookG ss r) (lo : ∀ l ∈ ls, LgOk l) (hl : ls.length ≤ 100) : ∀ ms ∈ trailL ss ls cl, (∀ y ∈ ms, Sh 8 y) ∧ ms.length ≤ 800 := by
  intro ms h
  unfold trailL at h
  split at h
  · obtain ⟨run, hr, rfl⟩ := List.mem_map.mp h
    unfold grp at hr
    obtain ⟨h1, h2⟩ := flat_in hr
    rw [fold_flatG] at h1 h2
    have e : (runsOf (([], none) : List (List Lg) × Option (List Lg))).flatten ++ ls.filter (cntP ss cl) = ls.filter (cntP ss cl) := rfl
    rw [e] at h1 h2
    refine ⟨runM_sh bg run, ?_⟩
    have h3 := runM_len (ss := ss) (cl := cl) (r := run) fun x hx => pathG_len (lo x (List.mem_filter.mp (h2 x hx)).1)
    have := List.length_filter_le (cntP ss cl) ls
    omega
  · cases h
theorem trail_many (ss : List Sec) (ls : List Lg) (cl : Option (List Str)) : (trailL ss ls cl).length ≤ ls.length := by
  unfold trailL
  split
  · rw [List.length_map]
    unfold grp
    have h1 : (runsOf (ls.foldl (stG (cntP ss cl)) ([], none))).length ≤ _ := flat_many (fold_ne _ _ _ fun r z => nomatch z)
    rw [fold_flatG] at h1
    have e : (runsOf (([], none) : List (List Lg) × Option (List Lg))).flatten ++ ls.filter (cntP ss cl) = ls.filter (cntP ss cl) := rfl
    rw [e] at h1
    have := List.length_filter_le (cntP ss cl) ls
    omega
  · exact Nat.zero_le _
theorem ways_sm {ss : List Sec} {r : D3} {ls : List Lg} {cl : Option (List Str)} (bg : BookG ss r) (lo : ∀ l ∈ ls, LgOk l) (hl : ls.length ≤ 100) : Sm 800000 2 (.list ((trailL ss ls cl).map wayD)) := by
  refine (Sm.lst (sm_map (n := 7200) (k := 1) (m := 100) _ (fun ms hm => ?_) (by have := trail_many ss ls cl; omega))).le (by decide) (by decide)
  obtain ⟨h1, h2⟩ := trail_in bg lo hl ms hm
  exact way_sm h1 h2
abbrev s_l_right : Stmt := top 44
abbrev n_l_right : List Str := ["_law_book_here", "_law_legs_here", "_law_closed", "_law_before", "_law_gone_here", "_law_marks", "_law_some", "_law_ways", "_law_rows", "_law_told", "_law_found", "_law_run"]
abbrev p_l_right : List Str := ["_law_book_here", "_law_legs_here", "_law_closed"]
theorem sc_l_right : FnScope n_l_right p_l_right (defScope s_l_right) := ⟨rfl, rfl, rfl, by decide +kernel, rfl, by decide +kernel, by decide +kernel⟩
def tr_l_right : Tr := fun as P => ∃ (ss : List Sec) (r : D3) (ls : List Lg) (xs : List Str), as = [.da (bkD ss r), .da (.tuple (ls.map legD)), .da (.tuple (xs.map .str))] ∧ (BookG ss r ∧ (ss.map Sec.nm).Nodup ∧ (∀ l ∈ ls, LgOk l) ∧ ls.length ≤ 100 ∧ (∀ x ∈ xs, Nm x) ∧ xs.length ≤ 100) ∧ P (.da (.bool true))
end Pb

namespace Pb
open PySem PySem.Spec PyProof.Rows L2 TL
def goneD (ss : List Sec) (xs : List Str) (run : List Lg) : PyData := .list [wayD (runM ss (some xs) run), .list ((run.flatMap passG).map psD)]
theorem tri_sm {t : Tri} (h1 : t.1.natAbs < 10 ^ 12) (h2 : t.2.1.natAbs < 10 ^ 12) (h3 : t.2.2.natAbs < 10 ^ 12) : Sm 3 1 (triD t) := .tup (.cons (.int h1) (.cons (.int h2) (.cons (.int h3) .nil)))
theorem sum_bd {α : Type} {f : α → Int} {k : Nat} : ∀ {xs : List α}, (∀ x ∈ xs, (f x).natAbs ≤ k) → ((xs.map f).sum).natAbs ≤ k * xs.length
  | [], _ => Nat.zero_le _
  | x :: r, h => by
    rw [List.map_cons, List.sum_cons]
    have h1 := h x List.mem_cons_self
    have h2 := sum_bd (xs := r) fun y hy => h y (List.mem_cons_of_mem _ hy)
    have e : k * (r.length + 1) = k * r.length + k := Nat.mul_succ ..
    show _ ≤ k * (r.length + 1)
    omega
theorem vG_bd {ss : List Sec} (bg : ∀ s ∈ ss, SecK s) (q : Str × Int × Bool) : (vG ss q).1.natAbs ≤ 999 ∧ (vG ss q).2.1.natAbs ≤ 999 ∧ (vG ss q).2.2.natAbs ≤ 999 := by
  unfold vG
  cases e : ss.find? (fun s => decide (s.nm = q.1)) with
  | none => exact ⟨by show (0 : Int).natAbs ≤ 999; decide, by show (0 : Int).natAbs ≤ 999; decide, by show (0 : Int).natAbs ≤ 999; decide⟩
  | some s =>
    have sk := bg s (List.mem_of_find?_eq_some e)
    have ht : (s.ts.getD q.2.1.toNat (0, 0, 0)).1.natAbs ≤ 999 ∧ (s.ts.getD q.2.1.toNat (0, 0, 0)).2.1.natAbs ≤ 999 ∧ (s.ts.getD q.2.1.toNat (0, 0, 0)).2.2.natAbs ≤ 999 := by
      rw [List.getD_eq_getElem?_getD]
      cases e2 : s.ts[q.2.1.toNat]? with
      | none => exact ⟨by show (0 : Int).natAbs ≤ 999; decide, by show (0 : Int).natAbs ≤ 999; decide, by show (0 : Int).natAbs ≤ 999; decide⟩
      | some t =>
        obtain ⟨a, b, c, d, e', f⟩ := sk.ok t (List.mem_of_getElem? e2)
        exact ⟨by show t.1.natAbs ≤ 999; omega, by show t.2.1.natAbs ≤ 999; omega, by show t.2.2.natAbs ≤ 999; omega⟩
    show (addM s (0, 0, 0) (q.2.1, q.2.2)).1.natAbs ≤ 999 ∧ (addM s (0, 0, 0) (q.2.1, q.2.2)).2.1.natAbs ≤ 999 ∧ (addM s (0, 0, 0) (q.2.1, q.2.2)).2.2.natAbs ≤ 999
    unfold addM
    dsimp only
    obtain ⟨h1, h2, h3⟩ := ht
    refine ⟨by omega, ?_, ?_⟩
    · split <;> omega
    · split <;> omega
theorem sums_sm {ss : List Sec} {ls : List Lg} {cl : Option (List Str)} (bg : ∀ s ∈ ss, SecK s) (nd : (ss.map Sec.nm).Nodup) (lo : ∀ l ∈ ls, LgOk l) (hl : ls.length ≤ 100) : Sm 3 1 (triD (sumsL ss ls cl)) := by
  rw [sums_pass nd]
  have pm := pass_many (ss := ss) (cl := cl) lo
  refine tri_sm ?_ ?_ ?_
  · have := sum_bd (xs := passL ss ls cl) (f := fun q => (vG ss q).1) (k := 999) fun q _ => (vG_bd bg q).1
    show (((passL ss ls cl).map fun q => (vG ss q).1).sum).natAbs < 10 ^ 12
    omega
  · have := sum_bd (xs := passL ss ls cl) (f := fun q => (vG ss q).2.1) (k := 999) fun q _ => (vG_bd bg q).2.1
    show (((passL ss ls cl).map fun q => (vG ss q).2.1).sum).natAbs < 10 ^ 12
    omega
  · have := sum_bd (xs := passL ss ls cl) (f := fun q => (vG ss q).2.2) (k := 999) fun q _ => (vG_bd bg q).2.2
    show (((passL ss ls cl).map fun q => (vG ss q).2.2).sum).natAbs < 10 ^ 12
    omega
section
variable {P : Program} {w : World} {K : PySem.W.Frag} {mg : Str → Option Value} {base : Heap}
theorem kn_l_right (D : Df K mg "_law_right" s_l_right) (B : BW mg) (k_l_runs : Kn P w K mg base "_law_runs" 3 p_l_runs (spD K tr_l_runs)) (k_l_gone : Kn P w K mg base "_law_gone" 2 p_l_gone (spD K tr_l_gone)) (k_trails : KnO P w K mg base "trails" 6 p_trails (spD K tr_trails)) (k_passed : KnO P w K mg base "passed" 7 p_passed (spD K tr_passed)) (k_sums_of : KnO P w K mg base "sums_of" 7 p_sums_of (spD K tr_sums_of)) (k_l_sums : Kn P w K mg base "_law_sums" 1 p_l_sums (spD K tr_l_sums)) (k_l_one_by_one : Kn P w K mg base "_law_one_by_one" 4 p_l_one_by_one (spD K tr_l_one_by_one)) : Kn P w K mg base "_law_right" 8 p_l_right (spD K tr_l_right) := by
  refine D.knD sc_l_right (fun _ _ _ _ _ _ us hl => match us, hl with | [_, _, _], _ => rfl) (fun as Q h => by obtain ⟨ss, r, ls, xs, rfl, _⟩ := h; rfl) (fun f cdv A outer s H E gd hr => ?_)
  refine ⟨_, PSs.nox (pss_cons (ps_set (i := 3) sc_l_right.nd rfl (.inl rfl) (pe_callB (call_reprA gd hr) rfl B.repr boot_repr (pa_cons (pe_lst (pa_cons (pv 0) (pa_cons (pv 1) (pa_cons (pv 2) pa_nil)))) pa_nil))) (pss_cons (ps_setLc (i := 4) (own := [("_law_run", 11)]) (g := gName 11) (tt := tYes) (te := tCall (spD K tr_l_gone) [] E0 (tCons (tVar 0) (tCons (tVar 11) (tCons (tVar 2) (tNil))))) rfl sc_l_right.nd rfl rfl (sw_true rfl rfl rfl (by decide +kernel)) (pi_list (pe_kn k_l_runs gd (hr.mono (by decide)) rfl (pa_cons (pv 0) (pa_cons (pv 1) (pa_cons (pv 2) pa_nil))))) (blkOk_by (N := n_l_right) (sc := defScope s_l_right) (by decide +kernel)) (fun _ _ _ _ _ => (pg_name (i := 11) sc_l_right.nd rfl (.inl rfl))) (fun _ _ _ _ _ => pts_nil) (fun _ _ _ _ _ => (pe_kn k_l_gone gd (hr.mono (by decide)) rfl (pa_cons (pv 0) (pa_cons (pv 11) (pa_cons (pv 2) pa_nil)))))) (pss_cons (ps_par (i := 7) (j := 8) rfl sc_l_right.nd rfl rfl (by decide) rfl rfl (pa_cons (pe_lc (own := [("_law_marks", 5), ("_law_some", 6)]) (g := gLst K 2 (gCons (gName 5) (gCons (gName 6) (gNil)))) (tt := tYes) (te := tVar 5) rfl sc_l_right.nd (pi_list (pv 4)) (blkOk_by (N := n_l_right) (sc := defScope s_l_right) (by decide +kernel)) (fun _ _ _ _ _ => (pg_lst rfl (pgs_cons (pg_name (i := 5) sc_l_right.nd rfl (.inl rfl)) (pgs_cons (pg_name (i := 6) sc_l_right.nd rfl (.inl rfl)) pgs_nil)))) (fun _ _ _ _ _ => pts_nil) (fun _ _ _ _ _ => (pv 5))) (pa_cons (pe_lst pa_nil) pa_nil)) (by rfl)) (pss_cons (ps_for PassesOwn.never rfl (pi_list (pv 4)) (pg_lst rfl (pgs_cons (pg_name (i := 5) sc_l_right.nd rfl (.inl rfl)) (pgs_cons (pg_name (i := 6) sc_l_right.nd rfl (.inl rfl)) pgs_nil))) (pss_one (ps_set (i := 8) sc_l_right.nd rfl (.inl rfl) (pe_op op_catS (pv 8) (pv 6))))) (pss_cons (ps_par (i := 9) (j := 10) rfl sc_l_right.nd rfl rfl (by decide) rfl rfl (pa_cons (pe_knF k_trails gd (hr.mono (by decide)) rfl (pa_cons (pv 0) (pa_cons (pv 1) (pa_cons (pv 2) pa_nil)))) (pa_cons (pe_knF k_passed gd (hr.mono (by decide)) rfl (pa_cons (pv 0) (pa_cons (pv 1) (pa_cons (pv 2) pa_nil)))) pa_nil)) (by rfl)) (pss_cons (ps_if (PW.pt (pw_or (pt_cmpR op_ne (pe_callB (call_reprA gd hr) rfl B.repr boot_repr (pa_cons (pv 9) pa_nil)) (pe_callB (call_reprA gd hr) rfl B.repr boot_repr (pa_cons (pv 7) pa_nil)) (nomark _)) (pw_or1 (pt_cmpR op_ne (pe_callB (call_reprA gd hr) rfl B.repr boot_repr (pa_cons (pv 10) pa_nil)) (pe_callB (call_reprA gd hr) rfl B.repr boot_repr (pa_cons (pv 8) pa_nil)) (nomark _))))) (pss_one (ps_ret pe_bl)) pss_nil) (pss_cons (ps_if (pt_cmpR op_ne (pe_callB (call_reprA gd hr) rfl B.repr boot_repr (pa_cons (pe_knF k_sums_of gd (hr.mono (by decide)) rfl (pa_cons (pv 0) (pa_cons (pv 1) (pa_cons (pv 2) pa_nil)))) pa_nil)) (pe_callB (call_reprA gd hr) rfl B.repr boot_repr (pa_cons (pe_kn k_l_sums gd (hr.mono (by decide)) rfl (pa_cons (pv 0) (pa_cons (pv 8) pa_nil))) pa_nil)) (nomark _)) (pss_one (ps_ret pe_bl)) pss_nil) (pss_cons (ps_expr (pe_bm PySem.F.plainAttrs_list PySem.F.slot_list_append PySem.F.type_list_append mt_append (pv 9) (pa_cons (pe_lst (pa_cons pe_str pa_nil)) pa_nil))) (pss_cons (ps_expr (pe_bm PySem.F.plainAttrs_list PySem.F.slot_list_append PySem.F.type_list_append mt_append (pe_ix ix_list (pv 9) pe_int (fun _ _ => rfl)) (pa_cons pe_str pa_nil))) (pss_cons (ps_expr (pe_bm PySem.F.plainAttrs_list PySem.F.slot_list_insert PySem.F.type_list_insert mt_insert (pv 10) (pa_cons pe_int (pa_cons (pe_tup (pa_cons pe_str (pa_cons pe_int (pa_cons pe_bl pa_nil)))) pa_nil)))) (pss_cons (ps_if (pt_cmpR op_ne (pe_callB (call_reprA gd hr) rfl B.repr boot_repr (pa_cons (pe_lst (pa_cons (pe_knF k_trails gd (hr.mono (by decide)) rfl (pa_cons (pv 0) (pa_cons (pv 1) (pa_cons (pv 2) pa_nil)))) (pa_cons (pe_knF k_passed gd (hr.mono (by decide)) rfl (pa_cons (pv 0) (pa_cons (pv 1) (pa_cons (pv 2) pa_nil)))) pa_nil))) pa_nil)) (pe_callB (call_reprA gd hr) rfl B.repr boot_repr (pa_cons (pe_lst (pa_cons (pv 7) (pa_cons (pv 8) pa_nil))) pa_nil)) (nomark _)) (pss_one (ps_ret pe_bl)) pss_nil) (pss_cons (ps_if (pt_cmpR (op_neD hr.units) (pe_kn k_l_one_by_one gd (hr.mono (by decide)) rfl (pa_cons (pv 0) (pa_cons (pv 1) (pa_cons (pv 2) pa_nil)))) (pe_knF k_sums_of gd (hr.mono (by decide)) rfl (pa_cons (pv 0) (pa_cons (pv 1) (pa_cons (pv 2) pa_nil)))) (nomark _)) (pss_one (ps_ret pe_bl)) pss_nil) (pss_one (ps_ret (pe_cmpR op_eq (pe_callB (call_reprA gd hr) rfl B.repr boot_repr (pa_cons (pe_lst (pa_cons (pv 0) (pa_cons (pv 1) (pa_cons (pv 2) pa_nil)))) pa_nil)) (pv 3) (nomark _)))))))))))))))), fun as Q h => ?_⟩
  try dsimp only [cxOf]
  obtain ⟨ss, r, ls, xs, rfl, ⟨bg, nd, lo, l100, xn, xl⟩, q⟩ := h
  have ll : ls.length ≤ 1000 := by omega
  have asm : Sm 9000 6 (.list [bkD ss r, .tuple (ls.map legD), .tuple (xs.map .str)]) := (Sm.lst (.cons (bk_sm bg) (.cons (legs_sm lo l100) (.cons (sm_strs xn xl) .nil)))).le (by decide) (by decide)
  have rm := runs_many ss ls xs
  have wsm := ways_sm (cl := some xs) bg lo l100
  have psm := pas_sm (cl := some xs) bg.ss lo l100
  have ssm := sums_sm (cl := some xs) bg.ss nd lo l100
  refine s_seq (s_set (Ev.w (ev_cb (ev_cons (ev_lst (ev_cons (ev_v rfl) (ev_cons (ev_v rfl) (ev_cons (ev_v rfl) ev_nil))) rfl (Nat.le_of_ble_eq_true rfl)) ev_nil) (d_repr rfl (asm) (by decide) (by decide))) ?_))
  refine s_seq (s_set (Ev.w (ev_lc (xs := lawRuns ss ls xs) (enc := runD) (f := goneD ss xs) (rr := fun run => .fr [wayD (runM ss (some xs) run), .list ((run.flatMap passG).map psD)]) (i_lst (ev_call (ev_cons (ev_v rfl) (ev_cons (ev_v rfl) (ev_cons (ev_v rfl) ev_nil))) rfl (fun _ hp => ⟨_, _, _, _, rfl, (⟨bg, lo, ll⟩), hp⟩)) rfl) (by omega) (fun x hx N hN => g_name (by decide) hN) (fun x hx => ev_yes) (fun x hx hp => ev_call (ev_cons (ev_v rfl) (ev_cons (ev_v rfl) (ev_cons (ev_v rfl) ev_nil))) rfl (fun _ hp => ⟨ss, r, x, xs, rfl, ⟨bg, fun l hl => ⟨lo l ((runs_in hx).1 l hl).1, ((runs_in hx).1 l hl).2⟩, by have := (runs_in hx).2; omega⟩, hp⟩)) (fun x hx hp => rfl)) ?_))
  rw [filt]
  refine s_keep (i := 4) rfl ?_
  refine s_seq (s_par (by decide) ((ev_cons (ev_lc (xs := lawRuns ss ls xs) (enc := goneD ss xs) (f := fun run => wayD (runM ss (some xs) run)) (rr := fun run => .da (wayD (runM ss (some xs) run))) (i_lst (ev_v rfl) rfl) (by omega) (fun x hx N hN => g_lst rfl (g_cons (g_name (by decide) (g_cons (g_name (by decide) (g_nil hN)))))) (fun x hx => ev_yes) (fun x hx hp => ev_v rfl) (fun x hx hp => rfl)) (ev_cons (ev_lst ev_nil rfl (Nat.le_of_ble_eq_true rfl)) ev_nil)) _ _ ⟨_, _, rfl, ?_⟩))
  have ew : ((lawRuns ss ls xs).map fun run => wayD (runM ss (some xs) run)) = (trailL ss ls (some xs)).map wayD := by
    rw [← law_ways, List.map_map]
    rfl
  rw [filt, ew]
  have pm := pass_many (ss := ss) (cl := some xs) lo
  refine s_seq (s_for (own := [5, 6]) (f_lstK (ds := (lawRuns ss ls xs).map (goneD ss xs)) (ev_v rfl) _ _ ⟨fun k Γ' _ => ∃ x5 x6, Γ' = [.da (bkD ss r), .da (.tuple (ls.map legD)), .da (.tuple (xs.map .str)), .da (.str (PyData.shown (.list [bkD ss r, .tuple (ls.map legD), .tuple (xs.map .str)]))), .da (.list ((lawRuns ss ls xs).map (goneD ss xs))), x5, x6, .own ((trailL ss ls (some xs)).map wayD), .own ((((lawRuns ss ls xs).take k).flatMap fun run => run.flatMap passG).map psD), .no, .no, .no], ⟨.no, .no, rfl⟩, fun k d Γ' m hd hI => ?_, fun Γ' m hI => ?_⟩))
  · obtain ⟨x5, x6, rfl⟩ := hI
    obtain ⟨run, hrun, rfl⟩ := map_get hd
    have tk : (lawRuns ss ls xs).take (k + 1) = (lawRuns ss ls xs).take k ++ [run] := by
      rw [List.take_add_one, hrun]
      rfl
    have bd : ((((lawRuns ss ls xs).take k).flatMap fun run => run.flatMap passG).length) + (run.flatMap passG).length ≤ 700 := by
      have e1 : (passL ss ls (some xs)).length = ((((lawRuns ss ls xs).take (k + 1)).flatMap fun run => run.flatMap passG).length) + ((((lawRuns ss ls xs).drop (k + 1)).flatMap fun run => run.flatMap passG).length) := by
        rw [← law_rows, ← List.length_append, ← List.flatMap_append, List.take_append_drop]
      rw [tk, List.flatMap_append, List.length_append, List.flatMap_cons, List.flatMap_nil, List.append_nil] at e1
      omega
    refine g_lst rfl (g_cons (g_name (by decide) (g_cons (g_name (by decide) (g_nil ?_)))))
    refine s_set (Ev.w (ev_op (ev_v rfl) (ev_v rfl) (d_catL rfl rfl (by rw [List.length_map, List.length_map]; omega))) ?_)
    dsimp only
    rw [tk, List.flatMap_append, List.flatMap_cons, List.flatMap_nil, List.append_nil, List.map_append]
    exact ⟨_, _, rfl⟩
  obtain ⟨x5, x6, rfl⟩ := hI
  rw [List.length_map, List.take_length, law_rows]
  refine s_keep (i := 7) rfl (s_keep (i := 8) rfl ?_)
  have ed : ((trailL ss ls (some xs)).map fun ms => ms.map PyData.str).map PyData.list = (trailL ss ls (some xs)).map wayD := by
    rw [List.map_map]
    rfl
  have tm := trail_many ss ls (some xs)
  refine s_told2 (i := 9) (j := 10) (dss := (trailL ss ls (some xs)).map fun ms => ms.map PyData.str) (es := (passL ss ls (some xs)).map psD) (by decide) (by show 9 < 12; decide) (by show 10 < 12; decide) (ev_cons (ev_v rfl) (ev_cons (ev_v rfl) (ev_cons (ev_v rfl) ev_nil))) rfl (avnl3 (bk_nl bg.r) (.tup (.map ls fun l _ => leg_nl l)) (NoL.strs xs)) (fun Q hq => ⟨ss, r, ls, some xs, rfl, ⟨bg, lo, ll⟩, by rw [ed] at hq; exact hq⟩) (ev_call (ev_cons (ev_v rfl) (ev_cons (ev_v rfl) (ev_cons (ev_v rfl) ev_nil))) rfl (fun _ hp => ⟨_, _, _, some xs, rfl, (⟨lo, ll⟩), hp⟩)) (by rw [List.length_map]; omega) (fun d hd => ?_) (by rw [List.length_map]; omega) (EvT.eq (ev_or (ev_test (ev_op (ev_cb (ev_cons (ev_v rfl) ev_nil) (d_repr rfl (by rw [ed]; exact wsm) (by decide) (by decide))) (ev_cb (ev_cons (ev_v rfl) ev_nil) (d_repr rfl (wsm) (by decide) (by decide))) d_neS)) (fun hc => (ev_test (ev_op (ev_cb (ev_cons (ev_v rfl) ev_nil) (d_repr rfl (psm) (by decide) (by decide))) (ev_cb (ev_cons (ev_v rfl) ev_nil) (d_repr rfl (psm) (by decide) (by decide))) d_neS)))) (by rw [ed, decide_eq_true rfl, decide_eq_true rfl]; rfl)) (EvT.eq (ev_test (ev_op (ev_cb (ev_cons (ev_call (ev_cons (ev_v rfl) (ev_cons (ev_v rfl) (ev_cons (ev_v rfl) ev_nil))) rfl (fun _ hp => ⟨_, _, _, some xs, rfl, (⟨bg, nd, lo, ll⟩), hp⟩)) ev_nil) (d_repr rfl (ssm) (by decide) (by decide))) (ev_cb (ev_cons (ev_call (ev_cons (ev_v rfl) (ev_cons (ev_v rfl) ev_nil)) rfl (fun _ hp => ⟨_, _, _, rfl, (⟨bg, nd, fun q hq => (pass_in bg.ss lo hq).1⟩), hp⟩)) ev_nil) (d_repr rfl (by have e := sums_pass nd ls (some xs); unfold sumV; rw [← e]; exact ssm) (by decide) (by decide))) d_neS)) (by have e := sums_pass nd ls (some xs); unfold sumV; rw [← e, decide_eq_true rfl]; rfl)) ?_
  · obtain ⟨ms, hm, rfl⟩ := List.mem_map.mp hd
    rw [List.length_map]
    have := (trail_in bg lo l100 ms hm).2
    omega
  have bsm : Sm 1000000 3 (.list [.list ((trailL ss ls (some xs)).map wayD), .list ((passL ss ls (some xs)).map psD)]) := (Sm.lst (.cons wsm (.cons psm .nil))).le (by decide) (by decide)
  refine s_seq (s_ite (c := false) (EvT.eq (ev_test (ev_op (ev_cb (ev_cons (ev_lst (ev_cons (ev_call (ev_cons (ev_v rfl) (ev_cons (ev_v rfl) (ev_cons (ev_v rfl) ev_nil))) rfl (fun _ hp => ⟨_, _, _, some xs, rfl, (⟨bg, lo, ll⟩), hp⟩)) (ev_cons (ev_call (ev_cons (ev_v rfl) (ev_cons (ev_v rfl) (ev_cons (ev_v rfl) ev_nil))) rfl (fun _ hp => ⟨_, _, _, some xs, rfl, (⟨lo, ll⟩), hp⟩)) ev_nil)) rfl (Nat.le_of_ble_eq_true rfl)) ev_nil) (d_repr rfl (bsm) (by decide) (by decide))) (ev_cb (ev_cons (ev_lst (ev_cons (ev_v rfl) (ev_cons (ev_v rfl) ev_nil)) rfl (Nat.le_of_ble_eq_true rfl)) ev_nil) (d_repr rfl (bsm) (by decide) (by decide))) d_neS)) (by rw [decide_eq_true rfl]; rfl)) (fun hc => nomatch hc) (fun _ => s_next ?_))
  refine s_seq (s_ite (c := false) (EvT.eq (ev_test (ev_op (ev_call (ev_cons (ev_v rfl) (ev_cons (ev_v rfl) (ev_cons (ev_v rfl) ev_nil))) rfl (fun _ hp => ⟨_, _, _, _, rfl, (⟨bg, nd, lo, ll⟩), hp⟩)) (ev_call (ev_cons (ev_v rfl) (ev_cons (ev_v rfl) (ev_cons (ev_v rfl) ev_nil))) rfl (fun _ hp => ⟨_, _, _, some xs, rfl, (⟨bg, nd, lo, ll⟩), hp⟩)) (d_neD rfl rfl (tri_shp _) (tri_shp _)))) (by rw [eqv_tri]; rfl)) (fun hc => nomatch hc) (fun _ => s_next ?_))
  refine s_ret (Ev.w (Ev.eq (ev_op (ev_cb (ev_cons (ev_lst (ev_cons (ev_v rfl) (ev_cons (ev_v rfl) (ev_cons (ev_v rfl) ev_nil))) rfl (Nat.le_of_ble_eq_true rfl)) ev_nil) (d_repr rfl (asm) (by decide) (by decide))) (ev_v rfl) d_eqS) (by rw [decide_eq_true rfl])) ⟨_, rfl, q⟩)
end
end Pb

namespace Pb
open PySem PySem.Spec PyProof.Rows L2 TL
/-! ### legs turned about: all from behind -/
theorem hi_comm (i j : Int) : hiI j i = hiI i j := by
  unfold hiI
  split <;> split <;> omega
theorem secFor_turn (ss : List Sec) (cl : Option (List Str)) (l : Lg) : secFor ss (turnL l) cl = secFor ss l cl := by
  cases l with
  | ride => rfl
  | leg n i j =>
    have e : secHas n j i = secHas n i j := by
      funext s
      unfold secHas
      rw [hi_comm]
    show (if inCl n cl = true then none else ss.find? (secHas n j i)) = (if inCl n cl = true then none else ss.find? (secHas n i j))
    rw [e]
def swO (x : Option (Str × Str)) : Option (Str × Str) := x.map fun p => (p.2, p.1)
theorem ends_turn (ss : List Sec) (cl : Option (List Str)) (l : Lg) : endsOf ss (turnL l) cl = swO (endsOf ss l cl) := by
  cases l with
  | ride => rfl
  | leg n i j =>
    have e := secFor_turn ss cl (.leg n i j)
    show (secFor ss (turnL (.leg n i j)) cl).map _ = swO ((secFor ss (.leg n i j) cl).map _)
    rw [e]
    cases secFor ss (.leg n i j) cl with
    | none => rfl
    | some s => rfl
theorem ok_sw (a b : Option (Str × Str)) : okPair (swO a, swO b) = okPair (b, a) := by
  cases a with
  | none => cases b <;> rfl
  | some x =>
    cases b with
    | none => rfl
    | some y =>
      show decide (x.1 = y.2) = decide (y.2 = x.1)
      by_cases e : x.1 = y.2
      · rw [e]
      · rw [decide_eq_false e, decide_eq_false fun z => e z.symm]
theorem chn_snoc : ∀ {xs : List (Option (Str × Str))} {a : Option (Str × Str)}, chn xs → (∀ b, xs.getLast? = some b → okPair (b, a) = true) → chn (xs ++ [a])
  | [], a, _, _ => ⟨(fun _ z => nomatch z), trivial⟩
  | [x], a, _, h => ⟨fun b hb => by cases hb; exact h x rfl, ⟨(fun _ z => nomatch z), trivial⟩⟩
  | x :: y :: r, a, hc, h => ⟨fun b hb => hc.1 b hb, chn_snoc (xs := y :: r) hc.2 (fun b hb => h b (by rw [List.getLast?_cons_cons]; exact hb))⟩
theorem chn_left : ∀ {xs ys : List (Option (Str × Str))}, chn (xs ++ ys) → chn xs
  | [], _, _ => trivial
  | [x], _, _ => ⟨(fun _ z => nomatch z), trivial⟩
  | x :: y :: r, ys, h => ⟨fun b hb => h.1 b hb, chn_left (xs := y :: r) h.2⟩
theorem chn_right : ∀ {xs ys : List (Option (Str × Str))}, chn (xs ++ ys) → chn ys
  | [], _, h => h
  | x :: r, ys, h => chn_right (xs := r) h.2
theorem chn_rev : ∀ {es : List (Option (Str × Str))}, chn es → chn (es.reverse.map swO)
  | [], _ => trivial
  | a :: r, h => by
    rw [List.reverse_cons, List.map_append]
    refine chn_snoc (chn_rev h.2) fun b hb => ?_
    rw [List.getLast?_map, List.getLast?_reverse] at hb
    cases hr : r.head? with
    | none =>
      rw [hr] at hb
      cases hb
    | some c =>
      rw [hr] at hb
      cases hb
      rw [ok_sw]
      exact h.1 c hr
theorem ends_turned (ss : List Sec) (cl : Option (List Str)) (ls : List Lg) : (turnedL ls).map (fun l => endsOf ss l cl) = (ls.map fun l => endsOf ss l cl).reverse.map swO := by
  unfold turnedL
  rw [List.map_map, ← List.map_reverse, List.map_map]
  exact List.map_congr_left fun l _ => ends_turn ss cl l
theorem sound_turn1 {ss : List Sec} {cl : Option (List Str)} {ls : List Lg} (h : soundL ss ls cl = true) : soundL ss (turnedL ls) cl = true := by
  unfold soundL at h ⊢
  rw [sound_chn] at h ⊢
  rw [ends_turned]
  exact chn_rev h
theorem sound_turn (ss : List Sec) (cl : Option (List Str)) (ls : List Lg) : soundL ss (turnedL ls) cl = soundL ss ls cl := by
  cases h : soundL ss ls cl with
  | true => exact sound_turn1 h
  | false =>
    cases h2 : soundL ss (turnedL ls) cl with
    | false => rfl
    | true =>
      have := sound_turn1 h2
      rw [turned_turned, h] at this
      cases this
theorem range_rev {β : Type} (n : Nat) (f g : Nat → β) (h : ∀ m, m < n → f m = g (n - 1 - m)) : (List.range n).map f = ((List.range n).map g).reverse := by
  apply List.ext_getElem
  · rw [List.length_map, List.length_reverse, List.length_map]
  · intro m h1 h2
    rw [List.length_map, List.length_range] at h1
    rw [List.getElem_map, List.getElem_range, List.getElem_reverse, List.getElem_map, List.getElem_range, h m h1]
    congr 1
    rw [List.length_map, List.length_range]
def negP (p : Int × Bool) : Int × Bool := (p.1, !p.2)
def negQ (q : Str × Int × Bool) : Str × Int × Bool := (q.1, q.2.1, !q.2.2)
theorem steps_up {i j : Int} (h : i < j) : stepsL j i = ((stepsL i j).map negP).reverse := by
  unfold stepsL
  rw [if_pos h, if_neg (by omega), List.map_map]
  refine range_rev _ _ _ fun m hm => ?_
  show (j - 1 - (m : Int), false) = (i + (((j - i).toNat - 1 - m : Nat) : Int), false)
  congr 1
  omega
theorem negP_negP (p : Int × Bool) : negP (negP p) = p := by
  obtain ⟨a, b⟩ := p
  cases b <;> rfl
theorem steps_turn (i j : Int) : stepsL j i = ((stepsL i j).map negP).reverse := by
  rcases Int.lt_trichotomy i j with h | h | h
  · exact steps_up h
  · subst h
    have e : stepsL i i = [] := by
      unfold stepsL
      rw [if_neg (by omega), Int.sub_self]
      rfl
    rw [e]
    rfl
  · rw [steps_up h, List.map_reverse, List.reverse_reverse, List.map_map]
    have e : negP ∘ negP = id := funext negP_negP
    rw [e, List.map_id]
theorem pass_turn (l : Lg) : passG (turnL l) = ((passG l).map negQ).reverse := by
  cases l with
  | ride => rfl
  | leg n i j =>
    show (stepsL j i).map _ = (((stepsL i j).map _).map negQ).reverse
    rw [steps_turn i j, List.map_reverse, List.map_map, List.map_map]
    rfl
theorem path_up {s : Sec} {i j : Int} (h : i ≤ j) : pathM s i j = (List.range ((j - i).toNat + 1)).map fun m => s.ms.getD (i + (m : Nat)).toNat "" := by
  unfold pathM stepsL
  rw [List.range_succ_eq_map, List.map_cons, List.map_map]
  congr 1
  · congr 2
    omega
  · by_cases hh : i < j
    · rw [if_pos hh, List.map_map]
      refine List.map_congr_left fun m _ => ?_
      show s.ms.getD (i + (m : Int) + 1).toNat "" = s.ms.getD (i + ((m + 1 : Nat) : Int)).toNat ""
      congr 2
      omega
    · have e : i = j := by omega
      subst e
      rw [if_neg (by omega), Int.sub_self]
      rfl
theorem path_dn {s : Sec} {i j : Int} (h : j ≤ i) : pathM s i j = (List.range ((i - j).toNat + 1)).map fun m => s.ms.getD (i - (m : Nat)).toNat "" := by
  unfold pathM stepsL
  rw [List.range_succ_eq_map, List.map_cons, List.map_map, if_neg (by omega), List.map_map]
  congr 1
  · congr 2
    omega
  · refine List.map_congr_left fun m _ => ?_
    show s.ms.getD (i - 1 - (m : Int)).toNat "" = s.ms.getD (i - ((m + 1 : Nat) : Int)).toNat ""
    congr 2
    omega
theorem path_turn (s : Sec) (i j : Int) : pathM s j i = (pathM s i j).reverse := by
  by_cases h : i ≤ j
  · rw [path_up h, path_dn h]
    refine range_rev _ _ _ fun m hm => ?_
    congr 2
    omega
  · have h' : j ≤ i := by omega
    rw [path_up h', path_dn h']
    refine range_rev _ _ _ fun m hm => ?_
    congr 2
    omega
theorem pathG_turn (ss : List Sec) (cl : Option (List Str)) (l : Lg) : pathG ss cl (turnL l) = (pathG ss cl l).reverse := by
  cases l with
  | ride => rfl
  | leg n i j =>
    have e := secFor_turn ss cl (.leg n i j)
    change secFor ss (.leg n j i) cl = _ at e
    show pathG ss cl (.leg n j i) = _
    unfold pathG
    rw [e]
    cases secFor ss (.leg n i j) cl with
    | none => rfl
    | some s => exact path_turn s i j
/-- the first mark of the way of a leg that counts -/
theorem pathG_head {ss : List Sec} {cl : Option (List Str)} {l : Lg} {p : Str × Str} (h : endsOf ss l cl = some p) : ∃ t, pathG ss cl l = p.1 :: t := by
  cases l with
  | ride => cases h
  | leg n i j =>
    change (secFor ss (.leg n i j) cl).map _ = _ at h
    unfold pathG
    cases e : secFor ss (.leg n i j) cl with
    | none =>
      rw [e] at h
      cases h
    | some s =>
      rw [e] at h
      cases h
      exact ⟨_, rfl⟩
theorem ends_some {ss : List Sec} {cl : Option (List Str)} {l : Lg} (h : cntP ss cl l = true) : ∃ p, endsOf ss l cl = some p := by
  cases l with
  | ride => cases h
  | leg n i j =>
    unfold cntP at h
    show ∃ p, (secFor ss (.leg n i j) cl).map _ = some p
    cases e : secFor ss (.leg n i j) cl with
    | none =>
      rw [e] at h
      cases h
    | some s => exact ⟨_, rfl⟩
theorem turned_ne {r : List Lg} (h : r ≠ []) : turnedL r ≠ [] := fun e => h (by
  have := congrArg turnedL e
  rw [turned_turned] at this
  exact this)
theorem run_turn {ss : List Sec} {cl : Option (List Str)} : ∀ {r : List Lg}, (∀ l ∈ r, cntP ss cl l = true) → chn (r.map fun l => endsOf ss l cl) → runM ss cl (turnedL r) = (runM ss cl r).reverse
  | [], _, _ => rfl
  | [l], _, _ => by
    show pathG ss cl (turnL l) ++ [] = (pathG ss cl l ++ []).reverse
    rw [List.append_nil, List.append_nil]
    exact pathG_turn ss cl l
  | l :: m :: r, hp, hc => by
    have ih := run_turn (r := m :: r) (fun x hx => hp x (List.mem_cons_of_mem _ hx)) hc.2
    rw [turned_cons, runM_snoc (turned_ne (List.cons_ne_nil _ _)), ih, pathG_turn]
    obtain ⟨p, ep⟩ := ends_some (hp l List.mem_cons_self)
    obtain ⟨q, eq⟩ := ends_some (hp m (List.mem_cons_of_mem _ List.mem_cons_self))
    have ok := hc.1 (endsOf ss m cl) rfl
    change okPair (endsOf ss l cl, endsOf ss m cl) = true at ok
    rw [ep, eq] at ok
    have jn : p.2 = q.1 := of_decide_eq_true ok
    obtain ⟨t, et⟩ := pathG_head eq
    have el : endsOf ss (turnL l) cl = some (p.2, p.1) := by
      rw [ends_turn, ep]
      rfl
    obtain ⟨u, eu⟩ := pathG_head el
    rw [pathG_turn] at eu
    have e1 : runM ss cl (m :: r) = q.1 :: (t ++ r.flatMap fun x => (pathG ss cl x).tail) := by
      show pathG ss cl m ++ _ = _
      rw [et]
      rfl
    have e2 : runM ss cl (l :: m :: r) = pathG ss cl l ++ (t ++ r.flatMap fun x => (pathG ss cl x).tail) := by
      show pathG ss cl l ++ (m :: r).flatMap (fun x => (pathG ss cl x).tail) = _
      rw [List.flatMap_cons, et]
      rfl
    rw [e1, e2, List.reverse_append, List.reverse_cons, eu, List.append_assoc]
    show _ ++ ([q.1] ++ u) = _
    rw [← jn]
    rfl
theorem fold_chn {ss : List Sec} {cl : Option (List Str)} (p : Lg → Bool) : ∀ (xs : List Lg) (st : List (List Lg) × Option (List Lg)), (∀ r ∈ st.1, chn (r.map fun l => endsOf ss l cl)) → chn ((st.2.getD [] ++ xs).map fun l => endsOf ss l cl) → ∀ r ∈ runsOf (xs.foldl (stG p) st), chn (r.map fun l => endsOf ss l cl)
  | [], st, h1, h2, r, hr => by
    rcases List.mem_append.mp hr with h | h
    · exact h1 r h
    · cases e : st.2 with
      | none =>
        rw [List.foldl_nil, e] at h
        cases h
      | some c =>
        rw [List.foldl_nil, e] at h
        rw [e, List.append_nil] at h2
        cases List.mem_singleton.mp h
        exact h2
  | x :: xs, st, h1, h2, r, hr => by
    rw [List.foldl_cons] at hr
    refine fold_chn p xs (stG p st x) ?_ ?_ r hr
    · unfold stG
      cases h : p x with
      | true =>
        rw [if_pos rfl]
        exact h1
      | false =>
        rw [if_neg Bool.false_ne_true]
        intro y hy
        rcases List.mem_append.mp hy with hy | hy
        · exact h1 y hy
        · cases e : st.2 with
          | none =>
            rw [e] at hy
            cases hy
          | some c =>
            rw [e] at hy
            cases List.mem_singleton.mp hy
            rw [e, List.map_append] at h2
            exact chn_left h2
    · unfold stG
      cases h : p x with
      | true =>
        rw [if_pos rfl]
        show chn (((st.2.getD [] ++ [x]) ++ xs).map _)
        rw [List.append_assoc]
        exact h2
      | false =>
        rw [if_neg Bool.false_ne_true]
        show chn (([] ++ xs).map _)
        rw [List.map_append] at h2
        exact (chn_right h2).2
theorem grp_chn {ss : List Sec} {cl : Option (List Str)} {ls : List Lg} (h : soundL ss ls cl = true) : ∀ r ∈ grp (cntP ss cl) ls, chn (r.map fun l => endsOf ss l cl) := by
  unfold soundL at h
  rw [sound_chn] at h
  exact fold_chn (cntP ss cl) ls ([], none) (fun _ z => nomatch z) h
theorem grp_cnt {ss : List Sec} {cl : Option (List Str)} {ls : List Lg} : ∀ r ∈ grp (cntP ss cl) ls, ∀ l ∈ r, cntP ss cl l = true := by
  intro r hr l hl
  have h := (flat_in hr).2 l hl
  unfold grp at h
  rw [fold_flatG] at h
  rcases List.mem_append.mp h with h | h
  · cases h
  · exact (List.mem_filter.mp h).2
/-- runs, from behind -/
def gB (p : Lg → Bool) : List Lg → Option (List Lg) × List (List Lg)
  | [] => (none, [])
  | l :: r => if p l = true then (some (l :: (gB p r).1.getD []), (gB p r).2) else (none, (gB p r).1.toList ++ (gB p r).2)
theorem stG_pos {p : Lg → Bool} {A : List (List Lg)} {c : Option (List Lg)} {l : Lg} (h : p l = true) : stG p (A, c) l = (A, some (c.getD [] ++ [l])) := by
  unfold stG
  rw [if_pos h]
theorem stG_neg {p : Lg → Bool} {A : List (List Lg)} {c : Option (List Lg)} {l : Lg} (h : p l = false) : stG p (A, c) l = (A ++ c.toList, none) := by
  unfold stG
  rw [if_neg (by rw [h]; exact Bool.false_ne_true)]
theorem gB_pos {p : Lg → Bool} {l : Lg} {r : List Lg} (h : p l = true) : gB p (l :: r) = (some (l :: (gB p r).1.getD []), (gB p r).2) := by
  rw [gB, if_pos h]
theorem gB_neg {p : Lg → Bool} {l : Lg} {r : List Lg} (h : p l = false) : gB p (l :: r) = (none, (gB p r).1.toList ++ (gB p r).2) := by
  rw [gB, if_neg (by rw [h]; exact Bool.false_ne_true)]
theorem fold_gB (p : Lg → Bool) : ∀ (xs : List Lg) (A : List (List Lg)) (c : Option (List Lg)), runsOf (xs.foldl (stG p) (A, c)) = match c with
    | none => A ++ ((gB p xs).1.toList ++ (gB p xs).2)
    | some r => A ++ ((r ++ (gB p xs).1.getD []) :: (gB p xs).2)
  | [], A, none => rfl
  | [], A, some r => by
    show A ++ [r] = A ++ [r ++ []]
    rw [List.append_nil]
  | x :: xs, A, c => by
    rw [List.foldl_cons]
    cases h : p x with
    | true =>
      rw [stG_pos h, fold_gB p xs, gB_pos h]
      cases c with
      | none => rfl
      | some r =>
        show A ++ ((r ++ [x] ++ (gB p xs).1.getD []) :: (gB p xs).2) = A ++ ((r ++ (x :: (gB p xs).1.getD [])) :: (gB p xs).2)
        rw [List.append_assoc]
        rfl
    | false =>
      rw [stG_neg h, fold_gB p xs, gB_neg h]
      cases c with
      | none =>
        show A ++ [] ++ ((gB p xs).1.toList ++ (gB p xs).2) = A ++ ((gB p xs).1.toList ++ (gB p xs).2)
        rw [List.append_nil]
      | some r =>
        show A ++ [r] ++ ((gB p xs).1.toList ++ (gB p xs).2) = A ++ ((r ++ []) :: ((gB p xs).1.toList ++ (gB p xs).2))
        rw [List.append_assoc, List.append_nil]
        rfl
theorem turned_snoc_fold {p : Lg → Bool} (hp : ∀ l, p (turnL l) = p l) : ∀ ls : List Lg, (turnedL ls).foldl (stG p) ([], none) = (((gB p ls).2.reverse.map turnedL), (gB p ls).1.map turnedL)
  | [] => rfl
  | l :: r => by
    rw [turned_cons, List.foldl_append, turned_snoc_fold hp r, List.foldl_cons, List.foldl_nil]
    cases h : p l with
    | true =>
      rw [stG_pos (by rw [hp]; exact h), gB_pos h]
      cases e : (gB p r).1 with
      | none => rfl
      | some c =>
        show (_, some (turnedL c ++ [turnL l])) = (_, some (turnedL (l :: c)))
        rw [turned_cons]
    | false =>
      rw [stG_neg (by rw [hp]; exact h), gB_neg h]
      cases e : (gB p r).1 with
      | none =>
        show ((gB p r).2.reverse.map turnedL ++ [], none) = ((gB p r).2.reverse.map turnedL, none)
        rw [List.append_nil]
      | some c =>
        show ((gB p r).2.reverse.map turnedL ++ [turnedL c], none) = ((c :: (gB p r).2).reverse.map turnedL, none)
        rw [List.reverse_cons, List.map_append]
        rfl
theorem grp_turned {p : Lg → Bool} (hp : ∀ l, p (turnL l) = p l) (ls : List Lg) : grp p (turnedL ls) = (grp p ls).reverse.map turnedL := by
  unfold grp
  rw [turned_snoc_fold hp, fold_gB]
  show (gB p ls).2.reverse.map turnedL ++ ((gB p ls).1.map turnedL).toList = ([] ++ ((gB p ls).1.toList ++ (gB p ls).2)).reverse.map turnedL
  rw [List.nil_append, List.reverse_append, List.map_append]
  cases (gB p ls).1 <;> rfl
theorem trail_turned (ss : List Sec) (ls : List Lg) (cl : Option (List Str)) : trailL ss (turnedL ls) cl = ((trailL ss ls cl).map List.reverse).reverse := by
  unfold trailL
  rw [sound_turn]
  by_cases h : soundL ss ls cl = true
  · rw [if_pos h, if_pos h, grp_turned (fun l => by unfold cntP; rw [secFor_turn]), List.map_map, List.map_reverse, List.map_map]
    congr 1
    refine List.map_congr_left fun r hr => ?_
    exact run_turn (grp_cnt r hr) (grp_chn h r hr)
  · rw [if_neg h, if_neg h]
    rfl
theorem cnt_turned (ss : List Sec) (ls : List Lg) (cl : Option (List Str)) : cntL ss (turnedL ls) cl = turnedL (cntL ss ls cl) := by
  unfold cntL
  rw [sound_turn]
  by_cases h : soundL ss ls cl = true
  · rw [if_pos h, if_pos h]
    unfold turnedL
    rw [List.filter_map, ← List.filter_reverse]
    congr 1
    refine List.filter_congr fun l _ => ?_
    show (secFor ss (turnL l) cl).isSome = _
    rw [secFor_turn]
  · rw [if_neg h, if_neg h]
    rfl
theorem flat_pass : ∀ ls : List Lg, (turnedL ls).flatMap passG = ((ls.flatMap passG).map negQ).reverse
  | [] => rfl
  | l :: r => by
    rw [turned_cons, List.flatMap_append, flat_pass r, List.flatMap_cons, List.flatMap_nil, List.append_nil, pass_turn, List.flatMap_cons, List.map_append, List.reverse_append]
theorem passL_turned (ss : List Sec) (ls : List Lg) (cl : Option (List Str)) : passL ss (turnedL ls) cl = ((passL ss ls cl).map negQ).reverse := by
  unfold passL
  rw [cnt_turned, flat_pass]
theorem sumI_app : ∀ xs ys : List Int, (xs ++ ys).sum = xs.sum + ys.sum
  | [], ys => by
    rw [List.nil_append]
    show _ = 0 + _
    omega
  | x :: r, ys => by
    rw [List.cons_append, List.sum_cons, List.sum_cons, sumI_app r ys]
    omega
theorem sumI_rev : ∀ xs : List Int, xs.reverse.sum = xs.sum
  | [] => rfl
  | x :: r => by
    rw [List.reverse_cons, sumI_app, sumI_rev r, List.sum_cons, List.sum_cons, List.sum_nil]
    omega
theorem vG_neg (ss : List Sec) (q : Str × Int × Bool) : vG ss (negQ q) = ((vG ss q).1, (vG ss q).2.2, (vG ss q).2.1) := by
  unfold vG
  show (match ss.find? (fun s => decide (s.nm = q.1)) with | some s => addM s (0, 0, 0) (q.2.1, !q.2.2) | none => (0, 0, 0)) = _
  cases ss.find? (fun s => decide (s.nm = q.1)) with
  | none => rfl
  | some s =>
    unfold addM
    cases q.2.2 <;> rfl
theorem sum_turned {ss : List Sec} (nd : (ss.map Sec.nm).Nodup) (ls : List Lg) (cl : Option (List Str)) : sumsL ss (turnedL ls) cl = ((sumsL ss ls cl).1, (sumsL ss ls cl).2.2, (sumsL ss ls cl).2.1) := by
  rw [sums_pass nd, sums_pass nd, passL_turned, ← List.map_reverse, List.map_map, List.map_map, List.map_map, List.map_reverse, List.map_reverse, List.map_reverse, sumI_rev, sumI_rev, sumI_rev]
  have e : ∀ q, vG ss (negQ q) = ((vG ss q).1, (vG ss q).2.2, (vG ss q).2.1) := vG_neg ss
  have e1 : ((fun q => (vG ss q).1) ∘ negQ) = fun q => (vG ss q).1 := funext fun q => by show (vG ss (negQ q)).1 = _; rw [e]
  have e2 : ((fun q => (vG ss q).2.1) ∘ negQ) = fun q => (vG ss q).2.2 := funext fun q => by show (vG ss (negQ q)).2.1 = _; rw [e]
  have e3 : ((fun q => (vG ss q).2.2) ∘ negQ) = fun q => (vG ss q).2.1 := funext fun q => by show (vG ss (negQ q)).2.2 = _; rw [e]
  rw [e1, e2, e3]
theorem turnedL_len (ls : List Lg) : (turnedL ls).length = ls.length := by
  unfold turnedL
  rw [List.length_map, List.length_reverse]
theorem eqv_int (i : Int) : PyData.eqv (.int i) (.int i) = true := by
  unfold PyData.eqv
  simp
theorem eqv_map {α : Type} {f : α → PyData} (h : ∀ x, PyData.eqv (f x) (f x) = true) : ∀ xs : List α, PyData.eqv (.list (xs.map f)) (.list (xs.map f)) = true
  | [] => rfl
  | x :: r => by
    show (PyData.eqv (f x) (f x) && PyData.eqv (.list (r.map f)) (.list (r.map f))) = true
    rw [h, eqv_map h r]
    rfl
theorem eqv_way (ms : List Str) : PyData.eqv (wayD ms) (wayD ms) = true := eqv_map (fun y => by rw [eqv_str, decide_eq_true rfl]) ms
theorem eqv_ps (q : Str × Int × Bool) : PyData.eqv (psD q) (psD q) = true := by
  show (PyData.eqv (.str q.1) (.str q.1) && (PyData.eqv (.int q.2.1) (.int q.2.1) && (PyData.eqv (.bool q.2.2) (.bool q.2.2) && true))) = true
  rw [eqv_str, eqv_int, decide_eq_true rfl]
  cases q.2.2 <;> rfl
end Pb

namespace Pb
open PySem PySem.Spec PyProof.Rows L2 TL
abbrev s_l_back_right : Stmt := top 45
abbrev n_l_back_right : List Str := ["_law_book_here", "_law_legs_here", "_law_closed", "_law_back", "_law_ways", "_law_rows", "_law_length", "_law_climb", "_law_fall", "_law_marks", "_law_name", "_law_number", "_law_forth"]
abbrev p_l_back_right : List Str := ["_law_book_here", "_law_legs_here", "_law_closed"]
theorem sc_l_back_right : FnScope n_l_back_right p_l_back_right (defScope s_l_back_right) := ⟨rfl, rfl, rfl, by decide +kernel, rfl, by decide +kernel, by decide +kernel⟩
def tr_l_back_right : Tr := fun as P => ∃ (ss : List Sec) (r : D3) (ls : List Lg) (xs : List Str), as = [.da (bkD ss r), .da (.tuple (ls.map legD)), .da (.tuple (xs.map .str))] ∧ (BookG ss r ∧ (ss.map Sec.nm).Nodup ∧ (∀ l ∈ ls, LgOk l) ∧ ls.length ≤ 100 ∧ (∀ x ∈ xs, Nm x) ∧ xs.length ≤ 100) ∧ P (.da (.bool true))
theorem ways_shp {ss : List Sec} {r : D3} {ls : List Lg} {cl : Option (List Str)} (bg : BookG ss r) (lo : ∀ l ∈ ls, LgOk l) (hl : ls.length ≤ 100) : SeqAt.shaped (.list ((trailL ss ls cl).map wayD)) = true := (Ly.lst (LyA.map _ fun ms hm => Ly.lst (LyA.map ms fun y hy => Ly.str ((trail_in bg lo hl ms hm).1 y hy)))).shp (by decide)
theorem Ly.bl (b : Bool) : Ly 0 (.bool b) := ⟨rfl, Nat.le_refl _⟩
theorem pas_shp {ss : List Sec} {ls : List Lg} {cl : Option (List Str)} (bg : ∀ s ∈ ss, SecK s) (lo : ∀ l ∈ ls, LgOk l) : SeqAt.shaped (.list ((passL ss ls cl).map psD)) = true := (Ly.lst (LyA.map _ fun q hq => Ly.tup (.cons (Ly.str (pass_in bg lo hq).2.2) (.cons (.int _) (.cons (.bl _) .nil))))).shp (by decide)
section
variable {P : Program} {w : World} {K : PySem.W.Frag} {mg : Str → Option Value} {base : Heap}
theorem kn_l_back_right (D : Df K mg "_law_back_right" s_l_back_right) (B : BW mg) (k_turned : Kn P w K mg base "turned" 1 p_turned (spD K tr_turned)) (k_trails : KnO P w K mg base "trails" 6 p_trails (spD K tr_trails)) (k_passed : KnO P w K mg base "passed" 7 p_passed (spD K tr_passed)) (k_sums_of : KnO P w K mg base "sums_of" 7 p_sums_of (spD K tr_sums_of)) : Kn P w K mg base "_law_back_right" 8 p_l_back_right (spD K tr_l_back_right) := by
  refine D.knD sc_l_back_right (fun _ _ _ _ _ _ us hl => match us, hl with | [_, _, _], _ => rfl) (fun as Q h => by obtain ⟨ss, r, ls, xs, rfl, _⟩ := h; rfl) (fun f cdv A outer s H E gd hr => ?_)
  refine ⟨_, PSs.nox (pss_cons (ps_set (i := 3) sc_l_back_right.nd rfl (.inl rfl) (pe_kn k_turned gd (hr.mono (by decide)) rfl (pa_cons (pv 1) pa_nil))) (pss_cons (ps_set (i := 4) sc_l_back_right.nd rfl (.inl rfl) (pe_revL (pe_lc (own := [("_law_marks", 9)]) (g := gName 9) (tt := tYes) (te := tRevL K (tVar 9)) rfl sc_l_back_right.nd (pi_list (pe_knF k_trails gd (hr.mono (by decide)) rfl (pa_cons (pv 0) (pa_cons (pv 1) (pa_cons (pv 2) pa_nil))))) (blkOk_by (N := n_l_back_right) (sc := defScope s_l_back_right) (by decide +kernel)) (fun _ _ _ _ _ => (pg_name (i := 9) sc_l_back_right.nd rfl (.inl rfl))) (fun _ _ _ _ _ => pts_nil) (fun _ _ _ _ _ => (pe_revL (pv 9)))))) (pss_cons (ps_set (i := 5) sc_l_back_right.nd rfl (.inl rfl) (pe_revL (pe_lc (own := [("_law_name", 10), ("_law_number", 11), ("_law_forth", 12)]) (g := gTup K 3 (gCons (gName 10) (gCons (gName 11) (gCons (gName 12) (gNil))))) (tt := tYes) (te := tTup (tCons (tVar 10) (tCons (tVar 11) (tCons (tNotV (tVar 12)) (tNil))))) rfl sc_l_back_right.nd (pi_list (pe_knF k_passed gd (hr.mono (by decide)) rfl (pa_cons (pv 0) (pa_cons (pv 1) (pa_cons (pv 2) pa_nil))))) (blkOk_by (N := n_l_back_right) (sc := defScope s_l_back_right) (by decide +kernel)) (fun _ _ _ _ _ => (pg_tup rfl (pgs_cons (pg_name (i := 10) sc_l_back_right.nd rfl (.inl rfl)) (pgs_cons (pg_name (i := 11) sc_l_back_right.nd rfl (.inl rfl)) (pgs_cons (pg_name (i := 12) sc_l_back_right.nd rfl (.inl rfl)) pgs_nil))))) (fun _ _ _ _ _ => pts_nil) (fun _ _ _ _ _ => (pe_tup (pa_cons (pv 10) (pa_cons (pv 11) (pa_cons (pe_not (pv 12)) pa_nil)))))))) (pss_cons (ps_asg (pe_knF k_sums_of gd (hr.mono (by decide)) rfl (pa_cons (pv 0) (pa_cons (pv 1) (pa_cons (pv 2) pa_nil)))) (pg_tup rfl (pgs_cons (pg_name (i := 6) sc_l_back_right.nd rfl (.inl rfl)) (pgs_cons (pg_name (i := 7) sc_l_back_right.nd rfl (.inl rfl)) (pgs_cons (pg_name (i := 8) sc_l_back_right.nd rfl (.inl rfl)) pgs_nil))))) (pss_cons (ps_if (PW.pt (pw_or (pt_cmpR (op_neD hr.units) (pe_knF k_trails gd (hr.mono (by decide)) rfl (pa_cons (pv 0) (pa_cons (pv 3) (pa_cons (pv 2) pa_nil)))) (pv 4) (nomark _)) (pw_or1 (pt_cmpR (op_neD hr.units) (pe_knF k_passed gd (hr.mono (by decide)) rfl (pa_cons (pv 0) (pa_cons (pv 3) (pa_cons (pv 2) pa_nil)))) (pv 5) (nomark _))))) (pss_one (ps_ret pe_bl)) pss_nil) (pss_one (ps_ret (pe_cmpR (op_eqD hr.units) (pe_knF k_sums_of gd (hr.mono (by decide)) rfl (pa_cons (pv 0) (pa_cons (pv 3) (pa_cons (pv 2) pa_nil)))) (pe_tup (pa_cons (pv 6) (pa_cons (pv 8) (pa_cons (pv 7) pa_nil)))) (nomark _))))))))), fun as Q h => ?_⟩
  try dsimp only [cxOf]
  obtain ⟨ss, r, ls, xs, rfl, ⟨bg, nd, lo, l100, xn, xl⟩, q⟩ := h
  have ll : ls.length ≤ 1000 := by omega
  have to := turned_ok lo
  have tl := turnedL_len ls
  have tm := trail_many ss ls (some xs)
  have pm := pass_many (ss := ss) (cl := some xs) lo
  refine s_seq (s_set (Ev.w (ev_call (ev_cons (ev_v rfl) ev_nil) rfl (fun _ hp => ⟨_, rfl, (⟨lo, ll⟩), hp⟩)) ?_))
  refine s_seq (s_set (Ev.w (ev_revL (ev_lc (xs := trailL ss ls (some xs)) (enc := wayD) (f := fun ms => wayD ms.reverse) (rr := fun ms => .fr (ms.map PyData.str).reverse) (i_lst (ev_call (ev_cons (ev_v rfl) (ev_cons (ev_v rfl) (ev_cons (ev_v rfl) ev_nil))) rfl (fun _ hp => ⟨_, _, _, some xs, rfl, (⟨bg, lo, ll⟩), hp⟩)) rfl) (by omega) (fun x hx N hN => g_name (by decide) hN) (fun x hx => ev_yes) (fun x hx hp => ev_revL (ev_v rfl) rfl) (fun x hx hp => by unfold wayD; rw [List.map_reverse]; rfl)) rfl) ?_))
  rw [filt]
  refine s_seq (s_set (Ev.w (ev_revL (ev_lc (xs := passL ss ls (some xs)) (enc := psD) (f := fun q => psD (negQ q)) (rr := fun q => .da (psD (negQ q))) (i_lst (ev_call (ev_cons (ev_v rfl) (ev_cons (ev_v rfl) (ev_cons (ev_v rfl) ev_nil))) rfl (fun _ hp => ⟨_, _, _, some xs, rfl, (⟨lo, ll⟩), hp⟩)) rfl) (by omega) (fun x hx N hN => g_tup rfl (g_cons (g_name (by decide) (g_cons (g_name (by decide) (g_cons (g_name (by decide) (g_nil hN)))))))) (fun x hx => ev_yes) (fun x hx hp => (ev_tup (ev_cons (ev_v rfl) (ev_cons (ev_v rfl) (ev_cons (ev_notV (ev_v rfl)) ev_nil))) rfl (Nat.le_of_ble_eq_true rfl))) (fun x hx hp => rfl)) rfl) ?_))
  rw [filt]
  have ew : ((trailL ss ls (some xs)).map fun ms => wayD ms.reverse).reverse = (trailL ss (turnedL ls) (some xs)).map wayD := by
    rw [trail_turned, List.map_reverse, List.map_map]
    rfl
  have er : ((passL ss ls (some xs)).map fun q => psD (negQ q)).reverse = (passL ss (turnedL ls) (some xs)).map psD := by
    rw [passL_turned, List.map_reverse, List.map_map]
    rfl
  rw [ew, er]
  refine s_keep (i := 4) rfl (s_keep (i := 5) rfl ?_)
  refine s_seq (s_asg (own := [6, 7, 8]) (Ev.w (ev_call (ev_cons (ev_v rfl) (ev_cons (ev_v rfl) (ev_cons (ev_v rfl) ev_nil))) rfl (fun _ hp => ⟨_, _, _, some xs, rfl, (⟨bg, nd, lo, ll⟩), hp⟩)) ⟨_, rfl, g_tup rfl (g_cons (g_name (by decide) (g_cons (g_name (by decide) (g_cons (g_name (by decide) (g_nil ?_)))))))⟩))
  refine s_seq (s_ite (c := false) (EvT.eq (ev_or (ev_test (ev_op (ev_call (ev_cons (ev_v rfl) (ev_cons (ev_v rfl) (ev_cons (ev_v rfl) ev_nil))) rfl (fun _ hp => ⟨_, _, _, some xs, rfl, (⟨bg, to, by omega⟩), hp⟩)) (ev_v rfl) (d_neD rfl rfl (ways_shp bg to (by omega)) (ways_shp bg to (by omega))))) (fun hc => (ev_test (ev_op (ev_call (ev_cons (ev_v rfl) (ev_cons (ev_v rfl) (ev_cons (ev_v rfl) ev_nil))) rfl (fun _ hp => ⟨_, _, _, some xs, rfl, (⟨to, by omega⟩), hp⟩)) (ev_v rfl) (d_neD rfl rfl (pas_shp bg.ss to) (pas_shp bg.ss to)))))) (by rw [eqv_map eqv_way, eqv_map eqv_ps]; rfl)) (fun hc => nomatch hc) (fun _ => s_next ?_))
  refine s_ret (Ev.w (Ev.eq (ev_op (ev_call (ev_cons (ev_v rfl) (ev_cons (ev_v rfl) (ev_cons (ev_v rfl) ev_nil))) rfl (fun _ hp => ⟨_, _, _, some xs, rfl, (⟨bg, nd, to, by omega⟩), hp⟩)) (ev_tup (ev_cons (ev_v rfl) (ev_cons (ev_v rfl) (ev_cons (ev_v rfl) ev_nil))) rfl (Nat.le_of_ble_eq_true rfl)) (d_eqD rfl rfl (tri_shp _) (tri_shp ((sumsL ss ls (some xs)).1, (sumsL ss ls (some xs)).2.2, (sumsL ss ls (some xs)).2.1)))) (by show _ = Rs.da (.bool true); rw [sum_turned nd]; exact congrArg (fun b => Rs.da (.bool b)) (eqv_tri ((sumsL ss ls (some xs)).1, (sumsL ss ls (some xs)).2.2, (sumsL ss ls (some xs)).2.1)))) ⟨_, rfl, q⟩)
end
end Pb

namespace Pb
open PySem PySem.Spec PyProof.Rows L2 TL
def spLaw (K : PySem.W.Frag) : Sp := fun vs H Q _ => ∃ (a : Addr) (ns : List Int), vs = [.ref a] ∧ SqL K H a (ns.map V.int) ∧ ns.length ≤ 63 ∧ ∀ H', Q (.bl true) H'
/-- a law, behind its draw's beginning -/
theorem run_law {K : PySem.W.Frag} {t : TS} {Γ : List Sl} {σ : L2.St} {d c : Addr} {H : Hp} {Q : VK} (dr : DrC H d c 0) (hl : Γ.length = σ.length) (hΓ : ∀ (i : Nat) (s : Sl), Γ[i]? = some s → s = .no ∨ (s = .dw ∧ σ[i]? = some (some (.ref d))))
    (h : wS K (some (d, c)) t Γ 0 (poOf fun r _ => r = .da (.bool true))) (q : ∀ H', Q (.bl true) H') : t { nx := fun _ H' => Q .non H', rt := Q } σ H := by
  have hc : H c ≠ none := by
    obtain ⟨a, l, u, cs, _, e2, _⟩ := dr
    rw [e2]
    intro z
    cases z
  have f : Fits K (some (d, c)) (fun _ => False) (fun b => b = c) Γ σ H := by
    refine ⟨hl, fun i s v hs hv => ?_, fun i j a _ ho => ?_, fun b hb => by rw [hb]; exact hc, fun b hb => hb.elim, fun p hp => by cases hp; rfl⟩
    · rcases hΓ i s hs with rfl | ⟨rfl, e⟩
      · trivial
      · rw [e] at hv
        cases hv
        exact ⟨_, rfl, rfl⟩
    · obtain ⟨ds, ho⟩ := ho
      rcases hΓ i _ ho with z | ⟨z, _⟩ <;> cases z
  refine h _ _ σ H f dr _ ⟨fun F' σ' H' Γ' n' gb hp f' g' p => ?_, fun F' v H' r n' gb hp a hd g' p => ?_, fun F' σ' H' Γ' n' gb hp => hp.elim, fun F' σ' H' Γ' n' gb hp => hp.elim⟩
  · cases hp
  · obtain ⟨r', er, rfl⟩ := hp
    cases r with
    | da x =>
      cases er
      rw [Dk.bl' a]
      exact q H'
    | ow ds => cases er
    | fr ds => cases er
    | al ds => cases er
    | dw => cases er
end Pb

namespace Pb
open PySem PySem.Spec PyProof.Rows L2 TL
abbrev s_law : Stmt := top 46
abbrev n_law : List Str := ["_law_script", "_law_draw", "_law_book_here", "_law_turn", "_law_legs_here", "_law_closed", "_law_told", "_law_plain", "_law_none", "_law_section_here"]
abbrev p_law : List Str := ["_law_script"]
theorem sc_law : FnScope n_law p_law (defScope s_law) := ⟨rfl, rfl, rfl, by decide +kernel, rfl, by decide +kernel, by decide +kernel⟩
theorem sec_nil (ss : List Sec) (l : Lg) : secFor ss l (some []) = secFor ss l none := by
  cases l with
  | ride => rfl
  | leg nm i j => rfl
theorem sound_nil (ss : List Sec) (ls : List Lg) : soundL ss ls (some []) = soundL ss ls none := by
  unfold soundL
  congr 1
theorem pass_nil (ss : List Sec) (ls : List Lg) : passL ss ls (some []) = passL ss ls none := by
  unfold passL cntL
  rw [sound_nil]
  rfl
theorem pathG_nil (ss : List Sec) : pathG ss (some []) = pathG ss none := by
  funext l
  unfold pathG
  rw [sec_nil]
theorem runM_nil (ss : List Sec) : runM ss (some []) = runM ss none := by
  funext r
  cases r with
  | nil => rfl
  | cons l r =>
    unfold runM
    rw [pathG_nil]
theorem trail_nil (ss : List Sec) (ls : List Lg) : trailL ss ls (some []) = trailL ss ls none := by
  have e : cntP ss (some []) = cntP ss none := by
    funext l
    unfold cntP
    rw [sec_nil]
  unfold trailL
  rw [sound_nil, runM_nil, e]
theorem sums_nil (ss : List Sec) (ls : List Lg) : sumsL ss ls (some []) = sumsL ss ls none := by
  have e : cntL ss ls (some []) = cntL ss ls none := by
    unfold cntL
    rw [sound_nil]
    rfl
  unfold sumsL
  rw [e]
def toldD (ss : List Sec) (ls : List Lg) : List PyData := [.list ((trailL ss ls none).map wayD), .list ((passL ss ls none).map psD), triD (sumsL ss ls none)]
theorem eqv_told (ss : List Sec) (ls : List Lg) : PyData.eqv (.list (toldD ss ls)) (.list (toldD ss ls)) = true := by
  show (PyData.eqv (.list ((trailL ss ls none).map wayD)) (.list ((trailL ss ls none).map wayD)) && (PyData.eqv (.list ((passL ss ls none).map psD)) (.list ((passL ss ls none).map psD)) && (PyData.eqv (triD (sumsL ss ls none)) (triD (sumsL ss ls none)) && true))) = true
  rw [eqv_map eqv_way, eqv_map eqv_ps, eqv_tri]
  rfl
theorem told_shp {ss : List Sec} {r : D3} {ls : List Lg} (bg : BookG ss r) (lo : ∀ l ∈ ls, LgOk l) (hl : ls.length ≤ 100) : SeqAt.shaped (.list (toldD ss ls)) = true := (Ly.lst (.cons (Ly.lst (LyA.map _ fun ms hm => Ly.lst (LyA.map ms fun y hy => Ly.str ((trail_in bg lo hl ms hm).1 y hy)))) (.cons (Ly.lst (LyA.map _ fun q hq => Ly.tup (.cons (Ly.str (pass_in bg.ss lo hq).2.2) (.cons (.int _) (.cons (.bl _) .nil))))) (.cons (Ly.tup (.cons (.int _) (.cons (.int _) (.cons (.int _) .nil)))) .nil)))).shp (by decide)
theorem at2t {x y : PyData} {v : Int} (h0 : 0 ≤ v) (h1 : v < 2) : atI [x, y] v = some (if v = 0 then x else y) := by
  have : v = 0 ∨ v = 1 := by omega
  rcases this with rfl | rfl <;> rfl
section
variable {P : Program} {w : World} {K : PySem.W.Frag} {mg : Str → Option Value} {base : Heap}
theorem okG_law {f : Addr} {fd : FuncData} (F : FnD K "law" s_law [] f fd) (B : BW mg) (k_l_begin : Kn P w K mg base "_law_begin" 1 ["_law_script"] (spBeginC K)) (k_l_next : Kn P w K mg base "_law_next" 2 ["_law_draw", "_law_many"] (spR K trNext)) (k_l_book : Kn P w K mg base "_law_book" 5 p_l_book (spR K tr_l_book)) (k_l_legs : Kn P w K mg base "_law_legs" 5 p_l_legs (spR K tr_l_legs)) (k_l_right : Kn P w K mg base "_law_right" 8 p_l_right (spD K tr_l_right)) (k_l_back_right : Kn P w K mg base "_law_back_right" 8 p_l_back_right (spD K tr_l_back_right)) (k_trails : KnO P w K mg base "trails" 6 p_trails (spD K tr_trails)) (k_passed : KnO P w K mg base "passed" 7 p_passed (spD K tr_passed)) (k_sums_of : KnO P w K mg base "sums_of" 7 p_sums_of (spD K tr_sums_of)) : FnG P w K mg base CX0 9 f fd p_law (spLaw K) := by
  refine fnG_of F sc_law (fun vs H Q E h => ?_) (fun cdv A outer s H vs Q E gd hr h => ?_)
  · obtain ⟨a, ns, rfl, _⟩ := h
    rfl
  · obtain ⟨a, ns, rfl, hS, hlen, q⟩ := h
    refine ⟨_, PSs.nox (pss_cons (ps_set (i := 1) sc_law.nd rfl (.inr rfl) (pe_kn k_l_begin gd (hr.mono (by decide)) rfl (pa_cons (pv 0) pa_nil))) (pss_cons (ps_set (i := 2) sc_law.nd rfl (.inl rfl) (pe_kn k_l_book gd (hr.mono (by decide)) rfl (pa_cons (pv 1) (pa_cons pe_int pa_nil)))) (pss_cons (ps_for PassesOwn.never rfl (pi_range1 rfl B.range (pa_cons pe_int pa_nil)) (pg_name (i := 3) sc_law.nd rfl (.inl rfl)) (pss_cons (ps_set (i := 4) sc_law.nd rfl (.inl rfl) (pe_kn k_l_legs gd (hr.mono (by decide)) rfl (pa_cons (pv 1) (pa_cons (pv 2) (pa_cons (pe_op op_add pe_int (pe_kn k_l_next gd (hr.mono (by decide)) rfl (pa_cons (pv 1) (pa_cons (pe_ix ix_list (pe_lst (pa_cons pe_int (pa_cons pe_int (pa_cons pe_int pa_nil)))) (pe_kn k_l_next gd (hr.mono (by decide)) rfl (pa_cons (pv 1) (pa_cons pe_int pa_nil))) (fun _ _ => rfl)) pa_nil)))) pa_nil))))) (pss_cons (ps_set (i := 5) sc_law.nd rfl (.inl rfl) (pe_callTy call_tuple_of rfl B.tuple bt_tuple (pa_cons (pe_lc (own := [("_law_section_here", 9)]) (g := gName 9) (tt := tTest (tOp rEq (tCall (spR K trNext) [] E0 (tCons (tVar 1) (tCons (tC (.int 5)) (tNil)))) (tC (.int 0)))) (te := tOp (rIxT K) (tVar 9) (tC (.int 0))) rfl sc_law.nd (pi_tup (pe_ix ix_tup (pv 2) pe_int (fun _ _ => rfl))) (blkOk_by (N := n_law) (sc := defScope s_law) (by decide +kernel)) (fun _ _ _ _ _ => (pg_name (i := 9) sc_law.nd rfl (.inl rfl))) (fun _ _ _ _ _ => (pts_one (pt_cmpR op_eq (pe_kn k_l_next gd (hr.mono (by decide)) rfl (pa_cons (pv 1) (pa_cons pe_int pa_nil))) pe_int (nomark _)))) (fun _ _ _ _ _ => (pe_ix ix_tup (pv 9) pe_int (fun _ _ => rfl)))) pa_nil))) (pss_cons (ps_set (i := 5) sc_law.nd rfl (.inl rfl) (pe_ix ix_list (pe_lst (pa_cons (pe_tup pa_nil) (pa_cons (pv 5) pa_nil))) (pe_kn k_l_next gd (hr.mono (by decide)) rfl (pa_cons (pv 1) (pa_cons pe_int pa_nil))) (fun _ _ => rfl))) (pss_cons (ps_if (PW.pt (pw_or (pt_not (pt_val (pe_kn k_l_right gd (hr.mono (by decide)) rfl (pa_cons (pv 2) (pa_cons (pv 4) (pa_cons (pv 5) pa_nil)))))) (pw_or1 (pt_not (pt_val (pe_kn k_l_back_right gd (hr.mono (by decide)) rfl (pa_cons (pv 2) (pa_cons (pv 4) (pa_cons (pv 5) pa_nil))))))))) (pss_one (ps_ret pe_bl)) pss_nil) (pss_cons (ps_set (i := 6) sc_law.nd rfl (.inl rfl) (pe_lst (pa_cons (pe_knO k_trails gd (hr.mono (by decide)) rfl (pa_cons (pv 2) (pa_cons (pv 4) pa_nil))) (pa_cons (pe_knO k_passed gd (hr.mono (by decide)) rfl (pa_cons (pv 2) (pa_cons (pv 4) pa_nil))) (pa_cons (pe_knO k_sums_of gd (hr.mono (by decide)) rfl (pa_cons (pv 2) (pa_cons (pv 4) pa_nil))) pa_nil))))) (pss_cons (ps_set (i := 7) sc_law.nd rfl (.inl rfl) (pe_lst (pa_cons (pe_knF k_trails gd (hr.mono (by decide)) rfl (pa_cons (pv 2) (pa_cons (pv 4) (pa_cons (pe_tup pa_nil) pa_nil)))) (pa_cons (pe_knF k_passed gd (hr.mono (by decide)) rfl (pa_cons (pv 2) (pa_cons (pv 4) (pa_cons (pe_tup pa_nil) pa_nil)))) (pa_cons (pe_knF k_sums_of gd (hr.mono (by decide)) rfl (pa_cons (pv 2) (pa_cons (pv 4) (pa_cons (pe_tup pa_nil) pa_nil)))) pa_nil))))) (pss_cons (ps_set (i := 8) sc_law.nd rfl (.inl rfl) (pe_lst (pa_cons (pe_knF k_trails gd (hr.mono (by decide)) rfl (pa_cons (pv 2) (pa_cons (pv 4) (pa_cons pe_non pa_nil)))) (pa_cons (pe_knF k_passed gd (hr.mono (by decide)) rfl (pa_cons (pv 2) (pa_cons (pv 4) (pa_cons pe_non pa_nil)))) (pa_cons (pe_knF k_sums_of gd (hr.mono (by decide)) rfl (pa_cons (pv 2) (pa_cons (pv 4) (pa_cons pe_non pa_nil)))) pa_nil))))) (pss_one (ps_if (PW.pt (pw_or (pt_cmpR (op_neD hr.units) (pv 6) (pv 7) (nomark _)) (pw_or1 (pt_cmpR (op_neD hr.units) (pv 6) (pv 8) (nomark _))))) (pss_one (ps_ret pe_bl)) pss_nil)))))))))) (pss_one (ps_ret pe_bl))))), ?_⟩
    dsimp only [cxOf]
    refine asgE_go (call_go ⟨_, rfl, a, ns, rfl, hS, hlen, fun H1 d c nc nd dr bt => ?_⟩)
    refine gName_go ?_
    dsimp only
    refine run_law (K := K) (d := d) (c := c) (σ := [some (.ref a), some (.ref d), none, none, none, none, none, none, none, none]) (Γ := [.no, .dw, .no, .no, .no, .no, .no, .no, .no, .no]) dr rfl (fun i s hs => ?_) ?_ q
    · rcases i with _ | _ | _ | _ | _ | _ | _ | _ | _ | _ | i
      · cases hs
        exact .inl rfl
      · cases hs
        exact .inr ⟨rfl, rfl⟩
      all_goals cases hs
      all_goals exact .inl rfl
    have ho : (some (d, c) : Md) ≠ none := fun z => nomatch z
    refine s_seq (s_set (w_callR ho (w_cons (Ev.w (ev_v rfl) (w_cons (Ev.w ev_int (w_nil ⟨_, rfl, (⟨by decide, by decide, by decide⟩), fun ss r hb => ?_⟩)))))))
    obtain ⟨bg, nd⟩ := hb
    refine s_seq (s_for (own := [3]) ((f_rng1 (ev_cons ev_int ev_nil) (⟨by decide, by decide⟩)) _ _ ⟨fun k Γ' n' => ∃ x3 x4 x5 x6 x7 x8, Γ' = [.no, .dw, .da (bkD ss r), x3, x4, x5, x6, x7, x8, .no] ∧ n' ≤ 6000 + 100000 * k, ⟨.no, .no, .no, .no, .no, .no, rfl, by decide⟩, fun k t Γ' m hd hI => ?_, fun Γ' m hI => ?_⟩))
    · obtain ⟨x3, x4, x5, x6, x7, x8, rfl, hm⟩ := hI
      have hk : k < 3 := by
        have := (List.getElem?_eq_some_iff.mp hd).1
        rw [rngD_len] at this
        exact this
      refine g_name (by decide) (s_up hm ?_)
      have p1 : ∀ v : Int, (1 : Int) ≤ pk3 v (3 : Int) 9 18 ∧ pk3 v (3 : Int) 9 18 ≤ 18 := fun v => pk3_in (P := fun z => 1 ≤ z ∧ z ≤ 18) ⟨by decide, by decide⟩ ⟨by decide, by decide⟩ ⟨by decide, by decide⟩
      refine s_seq (s_set (w_callR ho (w_cons (Ev.w (ev_v rfl) (w_cons (Ev.w (ev_v rfl) (w_cons (w_op (Ev.w ev_int (w_next ho rfl (w_op (Ev.w (ev_lst (ev_cons ev_int (ev_cons ev_int (ev_cons ev_int ev_nil))) rfl (Nat.le_of_ble_eq_true rfl)) (w_nextC ho rfl ⟨by decide, by decide⟩ (by omega) (fun v2 v2a v2b => ⟨_, d_ixL rfl (at3i v2a v2b), ⟨_, rfl, (by have := p1 v2; omega), (by have := p1 v2; omega), by omega, fun v1 v1a v1b => ⟨_, d_ii, (w_nil ⟨_, _, _, rfl, (⟨bg, by omega, by have := p1 v2; omega, by omega⟩), fun ls hls => ?_⟩)⟩⟩⟩))))))))))))))
      obtain ⟨lr, ll⟩ := hls
      have q1 := p1 v2
      have lo : ∀ l ∈ ls, LgOk l := fun l hl => (lr l hl).ok
      have l100 : ls.length ≤ 100 := by omega
      have l1 : ls.length ≤ 1000 := by omega
      have b8 := bg.l8
      refine s_seq (s_set (w_cb (w_cons (w_lc ((i_tup (ev_op (ev_v rfl) ev_int (d_ixT rfl))) _ _ ⟨?_, fun i acc m => ∃ hs : List Str, acc = hs.map .str ∧ hs.length ≤ i ∧ (∀ y ∈ hs, Nm y) ∧ m = 6000 + 100000 * k + 1 + 1 + 90000 + i, ⟨[], rfl, Nat.le_refl _, (fun _ z => nomatch z), rfl⟩, fun i acc m hI => ?_, fun i d acc m hd hI => ?_, fun acc m hI => ?_⟩)))))
      · rw [List.length_map]
        omega
      · obtain ⟨hs, rfl, hl, _⟩ := hI
        rw [List.length_map]
        exact hl
      · obtain ⟨hs, rfl, hl, hk2, rfl⟩ := hI
        obtain ⟨y, hy, rfl⟩ := map_get hd
        have hi : i < ss.length := (List.getElem?_eq_some_iff.mp hy).1
        have yn : Nm y.nm := (bg.ss y (List.mem_of_getElem? hy)).nm
        refine g_name (by decide) (w_test (w_op (w_nextC ho rfl ⟨by decide, by decide⟩ (by omega) (fun v ha hb => Ev.w ev_int ⟨_, d_eqI, _, rfl, ?_⟩))))
        cases decide (v = 0) with
        | true =>
          refine iteT (Ev.w (ev_op (ev_v rfl) ev_int (d_ixT rfl)) ⟨_, rfl, hs ++ [y.nm], by rw [List.map_append]; rfl, ?_, fun x hx => ?_, by omega⟩)
          · rw [List.length_append]
            show hs.length + 1 ≤ i + 1
            omega
          · rcases List.mem_append.mp hx with z | z
            · exact hk2 x z
            · rw [List.mem_singleton.mp z]
              exact yn
        | false => exact iteF ⟨hs, rfl, by omega, hk2, by omega⟩
      obtain ⟨hs, rfl, hl, hk2, rfl⟩ := hI
      rw [List.length_map] at hl ⊢
      refine w_nil ⟨_, d_tuple rfl, ?_⟩
      refine s_seq (s_set (w_op (w_lst (w_cons (Ev.w (ev_tup ev_nil rfl (Nat.le_of_ble_eq_true rfl)) (w_cons (Ev.w (ev_v rfl) (w_nil ⟨_, rfl, Nat.le_of_ble_eq_true rfl, w_nextC ho rfl ⟨by decide, by decide⟩ (by omega) (fun v va vb => ⟨_, d_ixL rfl (at2t va vb), ?_⟩)⟩))))))))
      have ex : ∃ xs : List Str, (if v = 0 then PyData.tuple [] else .tuple (hs.map .str)) = .tuple (xs.map .str) ∧ (∀ x ∈ xs, Nm x) ∧ xs.length ≤ 100 := by
        split
        · exact ⟨[], rfl, (fun _ z => nomatch z), by decide⟩
        · exact ⟨hs, rfl, hk2, by omega⟩
      obtain ⟨xs, exs, xn, xl⟩ := ex
      rw [exs]
      refine s_seq (s_ite (c := false) (EvT.eq (ev_or (ev_not (ev_tB (ev_call (ev_cons (ev_v rfl) (ev_cons (ev_v rfl) (ev_cons (ev_v rfl) ev_nil))) rfl (fun _ hp => ⟨_, _, _, _, rfl, (⟨bg, nd, lo, l100, xn, xl⟩), hp⟩)))) (fun hc => (ev_not (ev_tB (ev_call (ev_cons (ev_v rfl) (ev_cons (ev_v rfl) (ev_cons (ev_v rfl) ev_nil))) rfl (fun _ hp => ⟨_, _, _, _, rfl, (⟨bg, nd, lo, l100, xn, xl⟩), hp⟩)))))) rfl) (fun hc => nomatch hc) (fun _ => s_next ?_))
      refine s_seq (s_set (Ev.w (ev_lst (ev_cons (ev_callD av_non (ev_cons (ev_v rfl) (ev_cons (ev_v rfl) ev_nil)) rfl (fun _ hp => ⟨_, _, _, none, rfl, (⟨bg, lo, l1⟩), hp⟩)) (ev_cons (ev_callD av_non (ev_cons (ev_v rfl) (ev_cons (ev_v rfl) ev_nil)) rfl (fun _ hp => ⟨_, _, _, none, rfl, (⟨lo, l1⟩), hp⟩)) (ev_cons (ev_callD av_non (ev_cons (ev_v rfl) (ev_cons (ev_v rfl) ev_nil)) rfl (fun _ hp => ⟨_, _, _, none, rfl, (⟨bg, nd, lo, l1⟩), hp⟩)) ev_nil))) rfl (Nat.le_of_ble_eq_true rfl)) ?_))
      refine s_seq (s_set (Ev.w (ev_lst (ev_cons (ev_call (ev_cons (ev_v rfl) (ev_cons (ev_v rfl) (ev_cons (ev_tup ev_nil rfl (Nat.le_of_ble_eq_true rfl)) ev_nil))) rfl (fun _ hp => ⟨_, _, _, some [], rfl, (⟨bg, lo, l1⟩), hp⟩)) (ev_cons (ev_call (ev_cons (ev_v rfl) (ev_cons (ev_v rfl) (ev_cons (ev_tup ev_nil rfl (Nat.le_of_ble_eq_true rfl)) ev_nil))) rfl (fun _ hp => ⟨_, _, _, some [], rfl, (⟨lo, l1⟩), hp⟩)) (ev_cons (ev_call (ev_cons (ev_v rfl) (ev_cons (ev_v rfl) (ev_cons (ev_tup ev_nil rfl (Nat.le_of_ble_eq_true rfl)) ev_nil))) rfl (fun _ hp => ⟨_, _, _, some [], rfl, (⟨bg, nd, lo, l1⟩), hp⟩)) ev_nil))) rfl (Nat.le_of_ble_eq_true rfl)) ?_))
      refine s_seq (s_set (Ev.w (ev_lst (ev_cons (ev_call (ev_cons (ev_v rfl) (ev_cons (ev_v rfl) (ev_cons ev_non ev_nil))) rfl (fun _ hp => ⟨_, _, _, none, rfl, (⟨bg, lo, l1⟩), hp⟩)) (ev_cons (ev_call (ev_cons (ev_v rfl) (ev_cons (ev_v rfl) (ev_cons ev_non ev_nil))) rfl (fun _ hp => ⟨_, _, _, none, rfl, (⟨lo, l1⟩), hp⟩)) (ev_cons (ev_call (ev_cons (ev_v rfl) (ev_cons (ev_v rfl) (ev_cons ev_non ev_nil))) rfl (fun _ hp => ⟨_, _, _, none, rfl, (⟨bg, nd, lo, l1⟩), hp⟩)) ev_nil))) rfl (Nat.le_of_ble_eq_true rfl)) ?_))
      rw [trail_nil, pass_nil, sums_nil]
      refine s_keep (i := 6) rfl (s_keep (i := 7) rfl (s_keep (i := 8) rfl ?_))
      have ts := told_shp bg lo l100
      refine s_ite (c := false) (EvT.eq (ev_or (ev_test (ev_op (ev_v rfl) (ev_v rfl) (d_neD rfl rfl (ts) (ts)))) (fun hc => (ev_test (ev_op (ev_v rfl) (ev_v rfl) (d_neD rfl rfl (ts) (ts)))))) (by have e := eqv_told ss ls; unfold toldD at e; rw [e]; rfl)) (fun hc => nomatch hc) (fun _ => s_next ⟨_, _, _, _, _, _, rfl, by omega⟩)
    · exact s_ret (Ev.w ev_bl ⟨_, rfl, rfl⟩)
end
end Pb

namespace Pb
open PySem PySem.Spec PyProof.Rows L2
/-! ### the head: what the top has written -/
def dfn : List He.DefD := [⟨("is_name", none), "is_name", "is_name", defArgs s_is_name, defBody s_is_name, defScope s_is_name, [], []⟩, ⟨("section_of", none), "section_of", "section_of", defArgs s_section_of, defBody s_section_of, defScope s_section_of, [], []⟩, ⟨("steps_of", none), "steps_of", "steps_of", defArgs s_steps_of, defBody s_steps_of, defScope s_steps_of, [], []⟩, ⟨("reaches", none), "reaches", "reaches", defArgs s_reaches, defBody s_reaches, defScope s_reaches, [], []⟩, ⟨("measure", none), "measure", "measure", defArgs s_measure, defBody s_measure, defScope s_measure, [], []⟩, ⟨("turned", none), "turned", "turned", defArgs s_turned, defBody s_turned, defScope s_turned, [], []⟩, ⟨("section_for", none), "section_for", "section_for", defArgs s_section_for, defBody s_section_for, defScope s_section_for, [], []⟩, ⟨("from_to", none), "from_to", "from_to", defArgs s_from_to, defBody s_from_to, defScope s_from_to, [.non], []⟩, ⟨("are_joined", none), "are_joined", "are_joined", defArgs s_are_joined, defBody s_are_joined, defScope s_are_joined, [], []⟩, ⟨("first_break", none), "first_break", "first_break", defArgs s_first_break, defBody s_first_break, defScope s_first_break, [.non], []⟩, ⟨("meets", none), "meets", "meets", defArgs s_meets, defBody s_meets, defScope s_meets, [.non], []⟩, ⟨("counted", none), "counted", "counted", defArgs s_counted, defBody s_counted, defScope s_counted, [.non], []⟩, ⟨("passed", none), "passed", "passed", defArgs s_passed, defBody s_passed, defScope s_passed, [.non], []⟩, ⟨("sums_of", none), "sums_of", "sums_of", defArgs s_sums_of, defBody s_sums_of, defScope s_sums_of, [.non], []⟩, ⟨("marks_by", none), "marks_by", "marks_by", defArgs s_marks_by, defBody s_marks_by, defScope s_marks_by, [], []⟩, ⟨("trails", none), "trails", "trails", defArgs s_trails, defBody s_trails, defScope s_trails, [.non], []⟩, ⟨("_law_begin", none), "_law_begin", "_law_begin", defArgs sBegin, defBody sBegin, defScope sBegin, [], []⟩, ⟨("_law_mixed", none), "_law_mixed", "_law_mixed", defArgs sMixed, defBody sMixed, defScope sMixed, [], []⟩, ⟨("_law_next", none), "_law_next", "_law_next", defArgs sNext, defBody sNext, defScope sNext, [], []⟩, ⟨("_law_words", none), "_law_words", "_law_words", defArgs s_l_words, defBody s_l_words, defScope s_l_words, [], []⟩, ⟨("_law_stretch", none), "_law_stretch", "_law_stretch", defArgs s_l_stretch, defBody s_l_stretch, defScope s_l_stretch, [], []⟩, ⟨("_law_section", none), "_law_section", "_law_section", defArgs s_l_section, defBody s_l_section, defScope s_l_section, [], []⟩, ⟨("_law_book", none), "_law_book", "_law_book", defArgs s_l_book, defBody s_l_book, defScope s_l_book, [], []⟩, ⟨("_law_leg", none), "_law_leg", "_law_leg", defArgs s_l_leg, defBody s_l_leg, defScope s_l_leg, [], []⟩, ⟨("_law_end", none), "_law_end", "_law_end", defArgs s_l_end, defBody s_l_end, defScope s_l_end, [], []⟩, ⟨("_law_on", none), "_law_on", "_law_on", defArgs s_l_on, defBody s_l_on, defScope s_l_on, [], []⟩, ⟨("_law_legs", none), "_law_legs", "_law_legs", defArgs s_l_legs, defBody s_l_legs, defScope s_l_legs, [], []⟩, ⟨("_law_marks_of", none), "_law_marks_of", "_law_marks_of", defArgs s_l_marks_of, defBody s_l_marks_of, defScope s_l_marks_of, [], []⟩, ⟨("_law_is_sound", none), "_law_is_sound", "_law_is_sound", defArgs s_l_is_sound, defBody s_l_is_sound, defScope s_l_is_sound, [], []⟩, ⟨("_law_counted", none), "_law_counted", "_law_counted", defArgs s_l_counted, defBody s_l_counted, defScope s_l_counted, [], []⟩, ⟨("_law_runs", none), "_law_runs", "_law_runs", defArgs s_l_runs, defBody s_l_runs, defScope s_l_runs, [], []⟩, ⟨("_law_gone", none), "_law_gone", "_law_gone", defArgs s_l_gone, defBody s_l_gone, defScope s_l_gone, [], []⟩, ⟨("_law_sums", none), "_law_sums", "_law_sums", defArgs s_l_sums, defBody s_l_sums, defScope s_l_sums, [], []⟩, ⟨("_law_one_by_one", none), "_law_one_by_one", "_law_one_by_one", defArgs s_l_one_by_one, defBody s_l_one_by_one, defScope s_l_one_by_one, [], []⟩, ⟨("_law_right", none), "_law_right", "_law_right", defArgs s_l_right, defBody s_l_right, defScope s_l_right, [], []⟩, ⟨("_law_back_right", none), "_law_back_right", "_law_back_right", defArgs s_l_back_right, defBody s_l_back_right, defScope s_l_back_right, [], []⟩, ⟨("law", none), "law", "law", defArgs s_law, defBody s_law, defScope s_law, [], []⟩]
def gls0 : List Str := ["is_name", "section_of", "steps_of", "reaches", "measure", "turned", "section_for", "from_to", "are_joined", "first_break", "meets", "counted"]
def gls1 : List Str := ["passed", "sums_of", "marks_by", "trails", "_law_begin", "_law_mixed", "_law_next", "_law_words", "_law_stretch", "_law_section", "_law_book", "_law_leg"]
def gls2 : List Str := ["_law_end", "_law_on", "_law_legs", "_law_marks_of", "_law_is_sound", "_law_counted", "_law_runs", "_law_gone", "_law_sums", "_law_one_by_one", "_law_right", "_law_back_right"]
def gls3 : List Str := ["law", "RIDE"]
def gls : List Str := gls0 ++ (gls1 ++ (gls2 ++ (gls3)))
def frs0 : List Str := ["len", "range", "tuple", "list", "sum", "min", "max", "repr", "sorted", "set", "isinstance", "enumerate"]
def frs1 : List Str := ["zip", "str", "int", "all", "any", "abs"]
def frs : List Str := frs0 ++ (frs1)
def ckG (K : PySem.W.Frag) : Bool := gls.all fun x => gloB x K
def ckF (K : PySem.W.Frag) : Bool := frs.all fun x => freeB x K
def ckTRIDE (K : PySem.W.Frag) : Bool := He.tupB K "RIDE" [.str "ride"]
def ckSLETTERS (K : PySem.W.Frag) : Bool := (He.Fa.str "LETTERS" ltrS).ok K
def ckILONGEST_NAME (K : PySem.W.Frag) : Bool := (He.Fa.int "LONGEST_NAME" 8).ok K
def cks : List (PySem.W.Frag → Bool) := [ckG, ckF, ckTRIDE, ckSLETTERS, ckILONGEST_NAME]
section
variable {P : Program} {w : World} {K : PySem.W.Frag} {h base : Heap} {mg : Str → Option Value}
theorem fr_ok (X : K.In h) (G : h.Ns mainGlobals mg) (c : SaysX cks dfn K) : ∀ x ∈ frs, mg x = none := fun x hx => He.free_ok X G (List.all_eq_true.mp (c.fact 1 (f := ckF)) x hx)
theorem gl_ok (X : K.In h) (G : h.Ns mainGlobals mg) (c : SaysX cks dfn K) : ∀ x ∈ gls, mg x = some (.ref (He.ga K x)) := fun x hx => He.glo_ok X G (List.all_eq_true.mp (c.fact 0 (f := ckG)) x hx)
theorem mkBW (X : K.In h) (G : h.Ns mainGlobals mg) (c : SaysX cks dfn K) : BW mg := by
  have fr := fr_ok X G c
  exact { len := fr _ (by decide +kernel), range := fr _ (by decide +kernel), tuple := fr _ (by decide +kernel), list := fr _ (by decide +kernel), sum := fr _ (by decide +kernel), min := fr _ (by decide +kernel), max := fr _ (by decide +kernel), repr := fr _ (by decide +kernel), sorted := fr _ (by decide +kernel), set := fr _ (by decide +kernel), isinstance := fr _ (by decide +kernel), enumerate := fr _ (by decide +kernel), zip := fr _ (by decide +kernel), str := fr _ (by decide +kernel), int := fr _ (by decide +kernel), all := fr _ (by decide +kernel), any := fr _ (by decide +kernel) }
theorem mkTRIDE (c : SaysX cks dfn K) (F : Addr → Prop) (H : Hp) : Dk K F H (.ref (He.ga K "RIDE")) rideD := by
  have t := He.tupB_ok (c.fact 2 (f := ckTRIDE)) (fun _ => none)
  rcases t with z | z
  · rcases z with z | ⟨o, z⟩ <;> cases z
  · exact .tup (.inr z) (.cons (.str _) .nil)
theorem mkLaw {f : Addr} {fd : FuncData} (F : FnD K "law" s_law [] f fd) (X : K.In h) (G : h.Ns mainGlobals mg) (c : SaysX cks dfn K) : FnG P w K mg base CX0 9 f fd p_law (spLaw K) := by
  have gl := gl_ok X G c
  have fr := fr_ok X G c
  have B := mkBW X G c
  have gRIDE := gl "RIDE" (by decide +kernel)
  obtain ⟨tLETTERS, gLETTERS⟩ := He.str_ok X G (c.fact 3 (f := ckSLETTERS))
  obtain ⟨tLONGEST_NAME, gLONGEST_NAME⟩ := He.int_ok X G (c.fact 4 (f := ckILONGEST_NAME))
  have df : ∀ (i : Nat) {d : He.DefD}, dfn[i]? = some d → ∃ fd, FunD K d.name d.qual d.params d.body d.scope (d.dvs K) (d.kws K) (He.fAd K d.at_) fd := fun i {d} e => c.def_ i e
  have D7 : Df K mg "is_name" s_is_name := (df 0 rfl).elim fun fd F => ⟨He.ga K "is_name", fd, F, gl _ (by decide +kernel)⟩
  have D9 : Df K mg "section_of" s_section_of := (df 1 rfl).elim fun fd F => ⟨He.ga K "section_of", fd, F, gl _ (by decide +kernel)⟩
  have D11 : Df K mg "steps_of" s_steps_of := (df 2 rfl).elim fun fd F => ⟨He.ga K "steps_of", fd, F, gl _ (by decide +kernel)⟩
  have D12 : Df K mg "reaches" s_reaches := (df 3 rfl).elim fun fd F => ⟨He.ga K "reaches", fd, F, gl _ (by decide +kernel)⟩
  have D13 : Df K mg "measure" s_measure := (df 4 rfl).elim fun fd F => ⟨He.ga K "measure", fd, F, gl _ (by decide +kernel)⟩
  have D14 : Df K mg "turned" s_turned := (df 5 rfl).elim fun fd F => ⟨He.ga K "turned", fd, F, gl _ (by decide +kernel)⟩
  have D15 : Df K mg "section_for" s_section_for := (df 6 rfl).elim fun fd F => ⟨He.ga K "section_for", fd, F, gl _ (by decide +kernel)⟩
  have D16 : DfO K mg "from_to" s_from_to := (df 7 rfl).elim fun fd F => ⟨He.ga K "from_to", fd, F, gl _ (by decide +kernel)⟩
  have D17 : Df K mg "are_joined" s_are_joined := (df 8 rfl).elim fun fd F => ⟨He.ga K "are_joined", fd, F, gl _ (by decide +kernel)⟩
  have D18 : DfO K mg "first_break" s_first_break := (df 9 rfl).elim fun fd F => ⟨He.ga K "first_break", fd, F, gl _ (by decide +kernel)⟩
  have D19 : DfO K mg "meets" s_meets := (df 10 rfl).elim fun fd F => ⟨He.ga K "meets", fd, F, gl _ (by decide +kernel)⟩
  have D20 : DfO K mg "counted" s_counted := (df 11 rfl).elim fun fd F => ⟨He.ga K "counted", fd, F, gl _ (by decide +kernel)⟩
  have D21 : DfO K mg "passed" s_passed := (df 12 rfl).elim fun fd F => ⟨He.ga K "passed", fd, F, gl _ (by decide +kernel)⟩
  have D22 : DfO K mg "sums_of" s_sums_of := (df 13 rfl).elim fun fd F => ⟨He.ga K "sums_of", fd, F, gl _ (by decide +kernel)⟩
  have D23 : Df K mg "marks_by" s_marks_by := (df 14 rfl).elim fun fd F => ⟨He.ga K "marks_by", fd, F, gl _ (by decide +kernel)⟩
  have D24 : DfO K mg "trails" s_trails := (df 15 rfl).elim fun fd F => ⟨He.ga K "trails", fd, F, gl _ (by decide +kernel)⟩
  have D26 : Df K mg "_law_begin" sBegin := (df 16 rfl).elim fun fd F => ⟨He.ga K "_law_begin", fd, F, gl _ (by decide +kernel)⟩
  have D27 : Df K mg "_law_mixed" sMixed := (df 17 rfl).elim fun fd F => ⟨He.ga K "_law_mixed", fd, F, gl _ (by decide +kernel)⟩
  have D28 : Df K mg "_law_next" sNext := (df 18 rfl).elim fun fd F => ⟨He.ga K "_law_next", fd, F, gl _ (by decide +kernel)⟩
  have D29 : Df K mg "_law_words" s_l_words := (df 19 rfl).elim fun fd F => ⟨He.ga K "_law_words", fd, F, gl _ (by decide +kernel)⟩
  have D30 : Df K mg "_law_stretch" s_l_stretch := (df 20 rfl).elim fun fd F => ⟨He.ga K "_law_stretch", fd, F, gl _ (by decide +kernel)⟩
  have D31 : Df K mg "_law_section" s_l_section := (df 21 rfl).elim fun fd F => ⟨He.ga K "_law_section", fd, F, gl _ (by decide +kernel)⟩
  have D32 : Df K mg "_law_book" s_l_book := (df 22 rfl).elim fun fd F => ⟨He.ga K "_law_book", fd, F, gl _ (by decide +kernel)⟩
  have D33 : Df K mg "_law_leg" s_l_leg := (df 23 rfl).elim fun fd F => ⟨He.ga K "_law_leg", fd, F, gl _ (by decide +kernel)⟩
  have D34 : Df K mg "_law_end" s_l_end := (df 24 rfl).elim fun fd F => ⟨He.ga K "_law_end", fd, F, gl _ (by decide +kernel)⟩
  have D35 : Df K mg "_law_on" s_l_on := (df 25 rfl).elim fun fd F => ⟨He.ga K "_law_on", fd, F, gl _ (by decide +kernel)⟩
  have D36 : Df K mg "_law_legs" s_l_legs := (df 26 rfl).elim fun fd F => ⟨He.ga K "_law_legs", fd, F, gl _ (by decide +kernel)⟩
  have D37 : Df K mg "_law_marks_of" s_l_marks_of := (df 27 rfl).elim fun fd F => ⟨He.ga K "_law_marks_of", fd, F, gl _ (by decide +kernel)⟩
  have D38 : Df K mg "_law_is_sound" s_l_is_sound := (df 28 rfl).elim fun fd F => ⟨He.ga K "_law_is_sound", fd, F, gl _ (by decide +kernel)⟩
  have D39 : Df K mg "_law_counted" s_l_counted := (df 29 rfl).elim fun fd F => ⟨He.ga K "_law_counted", fd, F, gl _ (by decide +kernel)⟩
  have D40 : Df K mg "_law_runs" s_l_runs := (df 30 rfl).elim fun fd F => ⟨He.ga K "_law_runs", fd, F, gl _ (by decide +kernel)⟩
  have D41 : Df K mg "_law_gone" s_l_gone := (df 31 rfl).elim fun fd F => ⟨He.ga K "_law_gone", fd, F, gl _ (by decide +kernel)⟩
  have D42 : Df K mg "_law_sums" s_l_sums := (df 32 rfl).elim fun fd F => ⟨He.ga K "_law_sums", fd, F, gl _ (by decide +kernel)⟩
  have D43 : Df K mg "_law_one_by_one" s_l_one_by_one := (df 33 rfl).elim fun fd F => ⟨He.ga K "_law_one_by_one", fd, F, gl _ (by decide +kernel)⟩
  have D44 : Df K mg "_law_right" s_l_right := (df 34 rfl).elim fun fd F => ⟨He.ga K "_law_right", fd, F, gl _ (by decide +kernel)⟩
  have D45 : Df K mg "_law_back_right" s_l_back_right := (df 35 rfl).elim fun fd F => ⟨He.ga K "_law_back_right", fd, F, gl _ (by decide +kernel)⟩
  have D46 : Df K mg "law" s_law := (df 36 rfl).elim fun fd F => ⟨He.ga K "law", fd, F, gl _ (by decide +kernel)⟩
  have kB := kn_begin (P := P) (w := w) (base := base) D26
  have kN := kn_next (P := P) (w := w) (base := base) D28 D27 B.toBG
  have kRe := kn_reaches (P := P) (w := w) (base := base) D12 B.toBG
  have kAj := kn_are_joined (P := P) (w := w) (base := base) D17 B.toBG
  have kSf := kn_section_for D15 B.toBG gRIDE (mkTRIDE c) kRe
  have kFt := kn_from_to D16 B.toBG kSf
  have kFb := kn_first_break D18 B.toBG kFt kAj
  have kMe := kn_meets D19 B.toBG kFb
  have kCo := kn_counted D20 B.toBG kMe kSf
  have kIn := kn_is_name (P := P) (w := w) (base := base) D7 B.toBG gLETTERS gLONGEST_NAME
  have kSo := kn_section_of D9 B.toBG kIn
  have kSp := kn_steps_of (P := P) (w := w) (base := base) D11 B.toBG
  have kTu := kn_turned (P := P) (w := w) (base := base) D14 B.toBG gRIDE (mkTRIDE c)
  have kMs := kn_measure D13 B.toBG kRe kSp
  have kPa := kn_passed D21 B.toBG kCo kSp
  have kSu := kn_sums_of D22 B.toBG kCo kSo kMs
  have kW := kn_l_words D29 B.toBG kN
  have kSt := kn_l_stretch D30 B.toBG kN
  have kSe := kn_l_section D31 B.toBG kN kSt
  have kBk := kn_l_book D32 B kN kW kSe
  have kLg := kn_l_leg D33 B kN kW
  have kEn := kn_l_end (P := P) (w := w) (base := base) D34 B
  have kOn := kn_l_on D35 B kN
  have kLs := kn_l_legs D36 B kN kLg kEn kOn
  have kMb := kn_marks_by D23 B.toBG kSp
  have kTr := kn_trails D24 B.toBG kMe kSf kMb
  have kMo := kn_l_marks_of (P := P) (w := w) (base := base) D37 B
  have kIs := kn_l_is_sound D38 B kMo
  have kLc := kn_l_counted D39 B kMo kIs
  have kRu := kn_l_runs D40 B kMo kIs
  have kGo := kn_l_gone D41 B kMo
  have kLu := kn_l_sums (P := P) (w := w) (base := base) D42 B
  have kOb := kn_l_one_by_one D43 B kLc kMs
  have kRi := kn_l_right D44 B kRu kGo kTr kPa kSu kLu kOb
  have kBr := kn_l_back_right D45 B kTu kTr kPa kSu
  exact okG_law F B kB kN kBk kLs kRi kBr kTr kPa kSu
theorem facts {f : Addr} (X : K.In h) (G : h.Ns mainGlobals mg) (hfa : mg ("law" : Str) = some (.ref f)) (c : SaysX cks dfn K) :
    ∃ fd : FuncData, (∀ (s : Shared) (u : Value), BindsTo s fd ⟨[u], []⟩ [("_law_script", u)]) ∧ ∀ base : Heap, K.In base → base.Ns mainGlobals mg → FnG P w K mg base CX0 9 f fd ["_law_script"] (spLaw K) := by
  obtain ⟨fd, F⟩ := c.def_ 36 (d := ⟨("law", none), "law", "law", defArgs s_law, defBody s_law, defScope s_law, [], []⟩)
  have e := hfa.symm.trans (gl_ok X G c "law" (by decide +kernel))
  cases e
  have b := FunD.bindsA (ps := ["_law_script"]) F fun _ _ _ _ _ _ us hl => match us, hl with | [_], _ => rfl
  exact ⟨fd, fun s v => b s [v] rfl, fun base _ _ => mkLaw F X G c⟩
end
abbrev RR : PySem.W.OpenRow := PySem.W.OpenLaw.row PySem.Challenge.rw_pathbook_k16_whole_what_legs_pass
abbrev hk : PySem.W.Hook := hookX 5 cks dfn
def ob (s : PySem.W.SharedT) : He.AlD := obsXG 5 cks dfn (HandSHeadRun.getT s)
theorem ob_eq (s : PySem.W.SharedT) : ob s = hk.obs s.abs := obsXG_eq (HandSHeadRun.getT_eq s)
def loose0 : List PySem.Str := ["NotThere", "NoSection", "LETTERS", "LONGEST_NAME", "RIDE", "is_name", "section_of", "steps_of", "reaches", "measure", "turned", "section_for"]
def loose1 : List PySem.Str := ["from_to", "are_joined", "first_break", "meets", "counted", "passed", "sums_of", "marks_by", "trails", "_law_begin", "_law_mixed", "_law_next"]
def loose2 : List PySem.Str := ["_law_words", "_law_stretch", "_law_section", "_law_book", "_law_leg", "_law_end", "_law_on", "_law_legs", "_law_marks_of", "_law_is_sound", "_law_counted", "_law_runs"]
def loose3 : List PySem.Str := ["_law_gone", "_law_sums", "_law_one_by_one", "_law_right", "_law_back_right"]
def loose : List PySem.Str := loose0 ++ (loose1 ++ (loose2 ++ (loose3)))
theorem runs (w : World) : HandSHeadRun.RunEq RR (PySem.W.view RR.prog [46]) hk ob 4500 loose w := by
  intro os
  kernel_rfl
end Pb
open PySem PySem.W PySem.Calls PyProof.Rows
theorem PySem.Challenge.cw_pathbook_k16_whole_what_legs_pass_holds : PySem.Challenge.rw_pathbook_k16_whole_what_legs_pass.Holds := by
  w_on; o_law
  refine HandSHeadRun.head_any (r := OpenLaw.row PySem.Challenge.rw_pathbook_k16_whole_what_legs_pass) (q := view (OpenLaw.row PySem.Challenge.rw_pathbook_k16_whole_what_legs_pass).prog [46]) (H := Pb.hk) (ob := Pb.ob) (M := 4500) (loose := Pb.loose) (d := HandSHeadRun.topDef (OpenLaw.row PySem.Challenge.rw_pathbook_k16_whole_what_legs_pass).prog 46) (kwd := []) Pb.ob_eq
    (by kernel_rfl) (fun s => by kernel_rfl) Pb.runs (by kernel_rfl) (by kernel_rfl) (by kernel_rfl) (by rfl) (by first | assumption | decide +kernel) (by decide +kernel) ⟨rfl, rfl, rfl, rfl, rfl, by decide +kernel⟩ ?hw ?hc
  case hw => w_witness2
  case hc =>
    refine Pb.walkG (l := PySem.Challenge.rw_pathbook_k16_whole_what_legs_pass) (n := 63) (k := 9) (x := "_law_script") (CX := L2.CX0) rfl (by decide) (by kernel_rfl) ⟨rfl, by decide, by decide⟩ ?F (fun _ _ _ _ z => z)
    intro w mg fa h Y G hmg0
    obtain ⟨K, KX, c⟩ := Y
    have hmg : mg ("law" : PySem.Str) = some (.ref fa) := by
      have e : (HandSHeadRun.topDef (OpenLaw.row PySem.Challenge.rw_pathbook_k16_whole_what_legs_pass).prog 46).name = ("law" : PySem.Str) := by kernel_rfl
      rw [← e]
      exact hmg0
    obtain ⟨fd, hb, hF⟩ := Pb.facts (P := (PySem.Challenge.rw_pathbook_k16_whole_what_legs_pass).prog) (w := w) KX G hmg c
    exact ⟨K, fd, Pb.spLaw K, KX, hb, fun H a ns hl _ hS => ⟨a, ns, rfl, hS, hl, fun _ => rfl⟩, hF⟩
