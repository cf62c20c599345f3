import PyProof.Rows.All
import Wide.All
import OpenK.AllK
import Wide.FinOn
import PyProof.EqAt
import PyProof.EqKinds
import PyProof.TupleCall
import HandS.ForMost
import HandS.ForExc
import HandS.Wide
import HandS.Gcd
import HandS.IsInst
import HandS.ExcInit
import HandS.Defaults
import HandS.FStr
import HandS.CallSlots
import KE.KExcSuper
import KE.KExcIs
import KE.KTryMore
import HandS.FStrTup
import HandS.Ends
import HandS.SetFor
import HandS.Comp
import HandS.Iter
import HandS.Style
import KE.RegKSuper
import KE.KExcLine
import HandS.Head0
import HandS.Head1
import HandS.Head2
import HandS.HeadEnd
import HandS.HeadHook1
import HandS.HeadHook2
import PySem.Challenge.RW_roompace_k01_error_classes
set_option Elab.async false
set_option linter.all false
set_option maxRecDepth 100000
set_option maxHeartbeats 4000000
/-! # Rules of our own over the hand layer: calls that know that nothing is being shown (needed for repr of nested data), repr and {x!r} of data, list + list that are read -/
namespace Rm
open PySem PySem.Spec PyProof.Rows L2

/-- a def's promise where no repr is under way -/
structure FnG (P : Program) (w : World) (K : PySem.W.Frag) (mg : Str → Option Value) (base : Heap) (k : Nat) (f : Addr) (fd : FuncData) (ps : List Str) (sp : Sp) : Prop where
  len : ∀ vs H Q E, sp vs H Q E → vs.length = ps.length
  run : ∀ (A : Around) (outer : List Env) (s : Shared) (H : Hp) (args : Args) (us : List Value) (vs : List V) (Q : VK) (E : XK), Room k A → A.guards = some [] → Env0 P w K mg base A outer s H → BindsTo s fd args (ps.zip us) → Vals vs us → sp vs H Q E →
    codeAny (model P w) A (.call (.ref f) args) (CR (L2.CX P w) outer P w H s Q E) s
theorem FnG.mono {P : Program} {w : World} {K : PySem.W.Frag} {mg : Str → Option Value} {base : Heap} {j k : Nat} {f : Addr} {fd : FuncData} {ps : List Str} {sp : Sp} (F : FnG P w K mg base j f fd ps sp) (h : j ≤ k) :
    FnG P w K mg base k f fd ps sp := ⟨F.len, fun A outer s H args us vs Q E hr => F.run A outer s H args us vs Q E (hr.mono h)⟩
theorem FnG.imp {P : Program} {w : World} {K : PySem.W.Frag} {mg : Str → Option Value} {base : Heap} {k : Nat} {f : Addr} {fd : FuncData} {ps : List Str} {sp sp' : Sp} (F : FnG P w K mg base k f fd ps sp)
    (h : ∀ vs H Q E, sp' vs H Q E → sp vs H Q E) : FnG P w K mg base k f fd ps sp' :=
  ⟨fun vs H Q E q => F.len vs H Q E (h _ _ _ _ q), fun A outer s H args us vs Q E hr hg he hb hv hs => F.run A outer s H args us vs Q E hr hg he hb hv (h _ _ _ _ hs)⟩

theorem fn_ofG {P : Program} {w : World} {K : PySem.W.Frag} {mg : Str → Option Value} {base : Heap} {k : Nat} {f : Addr} {name qual : Str} {params : Arguments} {body : List Stmt} {scope : Scope} {dV kV doc pm cdv ct oc : Value} {an od : Option Addr}
    {osl : Array (Option Value)} {N ps : List Str} {sp : Sp} (lk : K.lookup f = some ⟨oc, od, .func (PySem.W.fnOf name qual params body scope dV kV doc pm an cdv ct), osl⟩) (hcd : PySem.W.codeIn K cdv qual = true) (S : FnScope N ps scope)
    (len : ∀ vs H Q E, sp vs H Q E → vs.length = ps.length)
    (hbody : ∀ (A : Around) (outer : List Env) (s : Shared) (H : Hp) (vs : List V) (Q : VK) (E : XK), Room k (A.deeper (envOfC qual scope s.heap.objs.size f cdv)) → A.guards = some [] → sp vs H Q E →
      ∃ t, PSs (cxOf (L2.CX P w) P w K mg base N qual scope f cdv A outer s H E) body t ∧ t { nx := fun _ H' => Q .non H', rt := Q } (start N vs) H) :
    FnG P w K mg base (k + 1) f (PySem.W.fnOf name qual params body scope dV kV doc pm an cdv ct) ps sp := by
  refine ⟨len, fun A outer s H args us vs Q E hr hgd e0 hb r hsp => ?_⟩
  have hl := len _ _ _ _ hsp
  have KX : K.In s.heap := e0.mod.kin.keeps fun b o e => (e0.bs b o e).1
  have lim : s.heap.NoLimit := e0.mod.nolimit.keeps fun b o e => (e0.bs b o e).1
  have hkind : ∀ y ∈ ps.zip us, scope.names.lookup y.1 = some .local ∨ (scope.names.lookup y.1 = some .cell ∧ ((cellsFrom (s.heap.objs.size + 1) scope.names []).lookup y.1).isSome = true) := fun ⟨n, v⟩ hy => by
    rcases S.par n (List.of_mem_zip hy).1 with q | q
    · exact .inl q
    · exact .inr ⟨q, PySem.W.cellsFrom_some _ _ _ (.inl q)⟩
  refine codeAny_call_function hr.depth (KX _ _ lk) rfl S.co S.gen rfl (PySem.W.codeRec_of KX hcd) (hb _ _ _ _ ?_)
  refine wpAny_newFunctionEnv_cells S.kind hkind fun env he s1 x => ?_
  subst he
  refine ⟨lim.keeps x.toInCall.keep, codeAny_func ?_⟩
  obtain ⟨t, ht, hq⟩ := hbody A outer s H vs Q E (hr.deeper _) hgd hsp
  have I : Inv (cxOf (L2.CX P w) P w K mg base N qual scope f cdv A outer s H E) [] (start N vs) H s1 := inv_start S hr.hd e0 hl r x
  refine wpAny_mono (ht.run [] s1 (start N vs) H _ I hq) (fun fl s' hs => ?_) fun e s' hs => hs
  have fin : ∀ {σ' : L2.St} {H' : Hp} {v : V} {u : Value}, Inv (cxOf (L2.CX P w) P w K mg base N qual scope f cdv A outer s H E) [] σ' H' s' → RelV v u → Q v H' → CE outer P w H s Q u s' :=
    fun {σ' H' v u} J rv q => ⟨v, H', J.os, J.bare, J.base, J.hok, rv, q⟩
  cases fl with
  | ret u =>
    obtain ⟨v, σ', H', J, rv, q⟩ := hs
    exact fin J rv q
  | next =>
    obtain ⟨σ', H', J, q⟩ := hs
    exact fin (v := V.non) (u := Value.none) J rfl q
  | brk =>
    obtain ⟨_, _, _, q⟩ := hs
    exact False.elim q
  | cont =>
    obtain ⟨_, _, _, q⟩ := hs
    exact False.elim q

section
variable {P : Program} {w : World} {K : PySem.W.Frag} {mg : Str → Option Value} {base : Heap}
/-- THE RULE for a def -/
theorem okG {x qual : Str} {st : Stmt} {f : Addr} {fd : FuncData} {N ps : List Str} {k : Nat} {sp : Sp} (F : Fun K x qual st f fd) (S : FnScope N ps (defScope st)) (len : ∀ vs H Q E, sp vs H Q E → vs.length = ps.length)
    (hbody : ∀ (cdv : Value) (A : Around) (outer : List Env) (s : Shared) (H : Hp) (vs : List V) (Q : VK) (E : XK), Room k (A.deeper (envOfC qual (defScope st) s.heap.objs.size f cdv)) → A.guards = some [] → sp vs H Q E →
      ∃ t, PSs (cxOf (L2.CX P w) P w K mg base N qual (defScope st) f cdv A outer s H E) (defBody st) t ∧ t { nx := fun _ H' => Q .non H', rt := Q } (start N vs) H) : FnG P w K mg base (k + 1) f fd ps sp := by
  obtain ⟨oc, od, kV, doc, pm, an, cdv, ct, osl, rfl, lk, hcd⟩ := F.ex
  exact fn_ofG lk hcd S len fun A outer s H vs Q E hr hg hsp => hbody cdv A outer s H vs Q E hr hg hsp
end

theorem pass0G {X : Cx} (σ : L2.St) : PassesAt (L2.CX X.prog X.w) X σ E0 := fun _ _ _ _ _ _ h => by
  obtain ⟨_, _, _, _, _, _, _, _, _, _, _, _, z⟩ := h
  exact z.elim

section
variable {X : Cx} {k : Nat} {f : Addr} {fd : FuncData} {ps ks : List Str} {sp : Sp} {dvs : List V} {ds : List Value} {E : L2.St → XK} {x : Str} {p pos : Pos} {e : Expr} {es : List Expr} {kws : List Keyword} {te ta : TE} {t tk : TA}
theorem run_fnG {pins : List (Addr × Obj)} {σ : L2.St} {H : Hp} {s : Shared} {Q : VK} {us : List Value} {vs : List V} (F : FnG X.prog X.w X.K X.mg X.base k f fd ps sp) (hr : Room k X.A) (hgd : X.A.guards = some []) (hb : Binds X.K fd ps ds) (hd : Vals dvs ds) (hx : PassesAt (L2.CX X.prog X.w) X σ (E σ))
    (I : Inv X pins σ H s) (r : Vals vs us) (h : sp (vs ++ dvs) H Q (E σ)) : wpAny (model X.prog X.w) X.A (call (.ref f) us) (EP X pins σ Q) X.xe s := by
  have r2 : Vals (vs ++ dvs) (us ++ ds) := r.append hd
  have hl : (us ++ ds).length = ps.length := by rw [← r2.length]; exact F.len _ _ _ _ h
  refine wpAny_call (codeAny_mono (F.run X.A X.stack s H ⟨us, []⟩ (us ++ ds) (vs ++ dvs) Q (E σ) hr hgd I.env0 (hb s us I.kIn hl) r2 h) fun r s' hq => ?_)
  cases r with
  | error e => exact hx pins H s e s' I hq
  | ok fl =>
    cases fl with
    | ret u => exact I.after hq
    | next => exact False.elim hq
    | brk => exact False.elim hq
    | cont => exact False.elim hq
/-- f(e, ..) -/
theorem pe_callG (F : FnG X.prog X.w X.K X.mg X.base k f fd ps sp) (hr : Room k X.A) (hgd : X.A.guards = some []) (hg : Gl X x) (hm : X.mg x = some (.ref f)) (hk : PySem.W.keepIn X.K (.ref f) = true) (hb : Binds X.K fd ps ds) (hd : Vals dvs ds) (hx : ∀ σ, PassesAt (L2.CX X.prog X.w) X σ (E σ))
    (ha : PA X (e :: es) t) (hdb : (x == ("__debug__" : Str)) = false := by decide) (he : starEach (e :: es) X.env = (false, eval e X.env) :: starEach es X.env := by rfl) (hpl : (backTo pos (starEach es X.env)).any (·.1) = false := by rfl) :
    PE X (.Call (.Name x p) (e :: es) [] pos) (tCallSD sp dvs E t) := by
  refine ⟨fun pins s σ H Q I h => ?_⟩
  refine wpAny_Call_Name_kw (ld_glob I hg hm ?_ hdb)
  refine PySem.W.callWith_K (h₀ := X.base) I.ok.mod.kin hk (thn (ha.run pos pins s σ H _ I h) fun us s1 ⟨vs, H1, I1, r, q⟩ => ⟨I1.kIn, ?_⟩) he hpl
  exact run_fnG F hr hgd hb hd (hx σ) I1 r q
end

/-! ### repr of data -/
theorem call_reprD {X : Cx} {k : Nat} (hr : Room k X.A) (hgd : X.A.guards = some []) : CallR X (.builtin "repr") (fun xs H Q => ∃ v d, xs = [v] ∧ Dp X.K H v d ∧ d.showable = true ∧ d.hasDict = false ∧ d.depth ≤ 20 ∧ d.shown.length ≤ sizeLine ∧ Q (.str d.shown) H) := by
  intro pins s σ H xs us Q I r h
  obtain ⟨v, d, rfl, hd, hs, hnd, hdp, hz, q⟩ := h
  obtain ⟨u, rfl, ru⟩ := vals1 r
  have hu := hr.units
  obtain ⟨as, rd⟩ := Dp.reads I d v u hd ru
  have fin : ∀ (a : Addr), u = .ref a → wpAny (model X.prog X.w) X.A (call (.builtin "repr") [u]) (EP X pins σ Q) X.xe s := fun a e => by
    subst e
    exact repr_of_reads' rd hs (PyData.noDict_hsm hnd) hgd (by omega) (fun _ _ e => e) (fun h' u tk hk => ⟨.str d.shown, H, I.kept hk, ⟨_, rfl⟩, q⟩) hz
  cases hd with
  | non =>
    cases ru
    simp only [PyData.shown] at q
    exact PySem.P.repr_of_none ⟨.str _, H, I.tok _, ⟨_, rfl⟩, q⟩
  | bl b =>
    cases ru
    simp only [PyData.shown] at q
    exact PySem.P.repr_of_bool ⟨.str _, H, I.tok _, ⟨_, rfl⟩, q⟩
  | int i =>
    obtain ⟨t, rfl⟩ := ru
    simp only [PyData.shown] at q
    exact PySem.P.repr_of_int (by simpa [PyData.showable] using hs) ⟨.str _, H, I.tok _, ⟨_, rfl⟩, q⟩
  | str x =>
    obtain ⟨t, rfl⟩ := ru
    simp only [PyData.shown] at q hz
    exact PySem.P.repr_of_str ⟨.str _, H, I.tok _, ⟨_, rfl⟩, q⟩ hz
  | lst h1 h2 => exact fin _ ru
  | tup h1 h2 => exact fin _ ru

/-! ### list + list, both read -/
open AutoSeq1 in
theorem list_add_any (l : Addr) (items : Array Value) (n : Nat) (sl : Array (Option Value)) (b : Addr) (items2 : Array Value) (n2 : Nat) (sl2 : Array (Option Value)) (hc0 : items.size + items2.size ≤ sizeLine) :
    Meets (Builtin.«list.__add__» ⟨[.ref l, .ref b], []⟩) (fun _ R s => s.heap.get? l = some { cls := .type "list", dict := none, data := .seq items n, slots := sl } ∧ s.heap.get? b = some { cls := .type "list", dict := none, data := .seq items2 n2, slots := sl2 } ∧ R (.ok (.ret (Value.ref s.heap.objs.size))) { s with heap := s.heap.push { cls := Value.type "list", data := Data.seq (items ++ items2) }, toks := s.toks }) :=
  .of_wp fun prog w A R s h => by obtain ⟨hp, g, d, tk, os⟩ := s; obtain ⟨hl, hb, h⟩ := h; have f1 := AutoSeq1.idx_int; have f2 := AutoSeq1.sub_tuple_tuple; have f3 := AutoSeq1.sub_list_list; have f4 := AutoSeq1.sub_tuple_list; have f5 := AutoSeq1.sub_list_tuple; wp_walk using AutoSeq1.wpAny_loadPart' hl, AutoSeq1.wpAny_loadPart' hb; exact ⟨_, rfl, h⟩
def rCatS (K : PySem.W.Frag) : R2 := fun x y H Q => ∃ l b xs zs, x = .ref l ∧ y = .ref b ∧ SqL K H l xs ∧ SqL K H b zs ∧ xs.length + zs.length ≤ sizeLine ∧ ∀ p, H p = none → Q (.ref p) (upd H p (.lst (xs ++ zs)))
theorem op_catS {X : Cx} : OpR X (binaryOp .Add) (rCatS X.K) := by
  intro pins s σ H x y v u Q I rx ry h
  obtain ⟨l, b, xs, zs, rfl, rfl, hH, hB, hz, q⟩ := h
  cases rx
  cases ry
  obtain ⟨its, r, ⟨o, n, e, c, dd, dt⟩, _⟩ := I.list hH
  obtain ⟨its2, r2, ⟨o2, n2, e2, c2, dd2, dt2⟩, _⟩ := I.list hB
  have hl := r.length
  have hl2 := r2.length
  obtain ⟨oc, od, dt0, sl⟩ := o
  obtain ⟨oc2, od2, dt02, sl2⟩ := o2
  dsimp only at c dd dt c2 dd2 dt2
  subst c dd dt c2 dd2 dt2
  refine concat_meets (S := _) ⟨_, e, rfl⟩ ⟨_, e2, rfl⟩ noFill_list_add seq_list_add F.slot_list_add F.entry_list_add (F.args_list_add_2 _ _) (list_add_any l its.toArray n sl b its2.toArray n2 sl2 (by rw [List.size_toArray, List.size_toArray]; omega)) ⟨e, e2, ?_⟩
  have ea : its.toArray ++ its2.toArray = (its ++ its2).toArray := by simp
  rw [ea]
  exact ⟨.ref _, _, I.lnew (t' := s.toks) (r.append r2) (by rw [List.length_append]; omega), rfl, q _ I.fresh⟩
end Rm
set_option Elab.async false
set_option linter.all false
set_option maxRecDepth 100000
set_option maxHeartbeats 4000000
/-! # An own exception, its __init__ made of «super().__init__(f'..{x!r}')» and «self.x = x»: made, over the heap -/
namespace RmX
open PySem PySem.W PySem.Calls PyProof.Rows PySem.HandSPX PySem.Spec
structure BaseX (B newId initId : String) (bmB : List Value) : Prop where
  exc : ExcBaseFacts B newId initId bmB
  st : StoreFacts B bmB "object.__setattr__" "object"
  kx : KxsFacts B initId
theorem base_VE : BaseX "ValueError" "ValueError.__new__" "ValueError.__init__" [.type "ValueError", .type "Exception", .type "BaseException", .type "object"] := ⟨F.excBase_ValueError, F.store_ValueError, kxs_ValueError⟩
theorem base_RE : BaseX "RuntimeError" "RuntimeError.__new__" "RuntimeError.__init__" [.type "RuntimeError", .type "Exception", .type "BaseException", .type "object"] := ⟨F.excBase_RuntimeError, F.store_RuntimeError, kxs_RuntimeError⟩
theorem base_LE : BaseX "LookupError" "LookupError.__new__" "LookupError.__init__" [.type "LookupError", .type "Exception", .type "BaseException", .type "object"] := ⟨F.excBase_LookupError, F.store_LookupError, kxs_LookupError⟩

section
open Builtin Builtin.ObjectAttr
variable {prog : Program} {w : World} {A : Around} {E : Value → Shared → Prop} {R : Result → Shared → Prop} {hp : Heap} {g : Array GenState} {d : Drawn} {t : Nat} {os : OsState} {B newId initId : String} {bmB : List Value}
theorem excTail_ne {l : List Value} (hb : bmB.isEmpty = false) (e : excTail bmB l = true) : l.isEmpty = false := by
  cases l with
  | nil =>
    have z : [] = bmB := beq_iff_eq.mp e
    rw [← z] at hb
    exact hb
  | cons _ _ => rfl
theorem exc_osaB (FB : BaseX B newId initId bmB) {K : W.Frag} {name : Str} {tk : Tok} {v : Value} {x C : Addr} {fv : Array Value} {cd : ClassData}
    (X : K.In hp) (hx : hp.get? x = some { cls := .ref C, data := .fields fv }) (hcd : W.clsIn K C = some cd) (hm : excTail bmB cd.mro = true) (hh : cd.hasDict = true) (ha : W.findIn K (.ref C) name = some none)
    (hq : ∀ h' tk' dx, (∀ b o, b ≠ x → hp.get? b = some o → h'.get? b = some o) → hp.objs.size ≤ dx → dx ≠ x → h'.get? x = some { cls := .ref C, dict := some dx, data := .fields fv } →
      h'.Ns1 dx (fun y => if y = name then some v else none) → R (.ok (.ret .none)) ⟨h', g, d, tk', os⟩) :
    codeAny (model prog w) A (.call (.builtin "object.__setattr__") ⟨[.ref x, .str name tk, v], []⟩) R ⟨hp, g, d, t, os⟩ := by
  have I : W.InstAt hp x { cls := .ref C, data := .fields fv } C none := ⟨hx, rfl, rfl, trivial⟩
  have SF := F.store_object
  have hbE : bmB.isEmpty = false := by
    have z := FB.st.hasOwner
    cases e : bmB with
    | nil => rw [e] at z; exact absurd z (by decide)
    | cons _ _ => rfl
  have ne := excTail_ne hbE hm
  have hob : cd.mro.contains (.type "object") = true := (excTail_contains "object" _ hm).trans FB.st.hasOwner
  have hxs : x ≠ hp.objs.size := Nat.ne_of_lt (Heap.lt_size hx)
  have sub : W.Looks (model prog w) hp (isInstance (.ref x) (.type "object")) true := I.type.andThen (W.looks_mroIn X (by unfold W.mroIn; rw [hcd, Option.bind_some, if_neg (by rw [ne]; decide), hob]))
  refine codeAny_call_builtin SF.slot.plain SF.entry (@W.check_slot (model prog w) _ _ ⟨hp, g, d, t, os⟩ "object.__setattr__" "object" "__setattr__" (.ref x) [.str name tk, v] [] _ SF.kind SF.split sub (SF.args (.ref x) (.str name tk) v) ?_)
  have hmr : W.Looks (model prog w) hp (mroOf (.ref C)) cd.mro := (W.looks_clsIn X hcd).andThen .now
  have L3 : W.Looks (model prog w) hp (storeTaker? none) none := .now
  have hcls : W.Looks (model prog w) hp (classData C) cd := W.looks_clsIn X hcd
  rw [W.osa_eq, refuse_eq]
  refine wpAny_bind (wpAny_bind (I.type.at (wpAny_bind (hmr.at ?_))))
  rw [excTail_pass (.ref x) (FB.st.passes (.ref x)) _ hm]
  refine wpAny_pure (wpAny_bind (I.type.at (wpAny_bind ((W.looks_findIn X ha).at (wpAny_bind (L3.at ?_))))))
  show wpAny _ _ (storeInOwnDict (.ref x) (.ref C) (.str name tk) name v false) _ _ _
  obtain ⟨nm, bs, mro, ns, qn, hd, sn, sb, ab, col, del⟩ := cd
  dsimp only at hh
  subst hh
  unfold storeInOwnDict ownDictForStores
  repeat (first | with_reducible refine HandSPX.store_in_new ?_ ?_ | with_reducible refine wpAny_loadPart_at hx ?_ | with_reducible refine hcls.at ?_ | wp_step)
  · exact ⟨_, #[], _, (Heap.get?_update_ne _ _ _ _ hxs.symm).trans (Heap.get?_push_at rfl rfl), rfl, fun e he => absurd he (by simp), fun _ => rfl⟩
  · intro h' tk' hn' hs
    have hx₁ : (hp.push { cls := .type "dict", data := .dict #[] }).get? x = some { cls := .ref C, data := .fields fv } := Heap.get?_push_of_some _ hx
    refine hq h' tk' hp.objs.size (fun b o hb ho => ?_) (Nat.le_refl _) hxs.symm ?_ hn'
    · exact (hs.2 b (Nat.ne_of_lt (Heap.lt_size ho))).trans ((Heap.get?_update_ne _ _ _ _ hb).trans (Heap.get?_push_of_some _ ho))
    · exact (hs.2 x hxs).trans (Heap.get?_update_self _ hx₁ rfl)
end

section
variable {prog : Program} {w : World} {A : Around} {E : Value → Shared → Prop} {h : Heap} {g : Array GenState} {d : Drawn} {t : Nat} {os : OsState} {B newId initId : String} {bmB : List Value}
variable {nm q : Str} {C N : Addr} {bs bm : List Value} {hdct : Bool} {sn : List Str} {sub : List Value} {ab : Bool} {col : Option Bool} {dd : Option Addr} {k0 k1 k2 k3 k5 : Option Value}
/-- super().__init__(..): the wrapper bound to the object is called -/
theorem call_mw (FB : BaseX B newId initId bmB) {u e t0 : Addr} {rest : List Value} {Q : Value → Shared → Prop}
    (hC : h.get? C = some (excClassObj nm q C N bs bm hdct sn sub ab col dd k0 k1 k2 k3 k5 newId)) (he : h.get? e = some (excO C t0)) (hu : h.get? u = some (kxs_mw initId e)) (hrest : rest.length ≤ sizeLine)
    (hq : ∀ h' t1, (∀ b o, b ≠ e → h.get? b = some o → h'.get? b = some o) → h'.get? e = some (excO C t1) → Q .none ⟨h', g, d, t, os⟩) :
    wpAny (model prog w) A (call (.ref u) rest) Q E ⟨h, g, d, t, os⟩ := by
  refine wpAny_call (codeAny_of_tree ?_)
  show wpAny _ A.in1 (callAny (.ref u) ⟨rest, []⟩) _ _ _
  simp only [callAny]
  refine wpAny_bind (wpAny_load hu ?_)
  simp only [kxs_mw, show (Value.type "method-wrapper" == Value.type "method" || Value.type "method-wrapper" == Value.type "builtin_function_or_method" || Value.type "method-wrapper" == Value.type "method-wrapper") = true by decide, if_true]
  refine KFB.if_so (by decide) ?_
  refine wpAny_bind (check_bound_init FB.exc.toExcCallFacts hC he rfl ?_)
  refine wpAny_bind (wpAny_pure (wpAny_pure ?_))
  refine ⟨plainId_quiet FB.exc.init.plain _, codeAny_builtin FB.exc.initEntry ?_⟩
  exact exc_init_tree (cls := .ref C) (t0 := t0) (dv := none) (c2 := .none) (c3 := .none) (b4 := .bool false) he hrest fun h' k e' t' => hq h' _ k e'
end
end RmX
set_option Elab.async false
set_option linter.all false
set_option maxRecDepth 100000
set_option maxHeartbeats 4000000
namespace RmX
open PySem PySem.W PySem.Calls PyProof.Rows PySem.HandSPX PySem.Spec
theorem eval_mcall {o : Expr} {name : Str} {args : List Expr} {apos pos : Pos} {env : Env} (hpos : (apos.endLine == pos.line) = true) (hform : methodCallForm args.length (backTo pos (starEach args env)) [] = true) :
    eval (.Call (.Attribute o name apos) args [] pos) env = (do
      let ov ← attributeBase o name env (eval o env)
      standAt apos.atName
      let (f, first) ← holding [ov] (getMethod ov name (do return (← importBound o env).getD true))
      callWith pos f first (backTo pos (starEach args env)) []) := by
  show (do
    let ov ← attributeBase o name env (eval o env)
    standAt apos.atName
    methodCall o name apos pos env ov (args.length + 0) (backTo pos (starEach args env)) []) = _
  have e : methodCallForm (args.length + 0) (backTo pos (starEach args env)) [] = true := hform
  simp only [methodCall, calleeOf, methodCallPos, e, hpos, Bool.not_true, Bool.false_or, if_true, pure_bind]
/-! ### the text of __init__ -/
def iA (F : Str) (p1 p2 : Pos) : Arguments := { posonlyargs := [], args := [{ arg := "self", annotation := none, pos := p1 }, { arg := F, annotation := none, pos := p2 }], vararg := none, kwonlyargs := [], kw_defaults := [], kwarg := none, defaults := [] }
def iB (F tx : Str) (q1 q2 q3 q4 q5 q6 q7 q8 q9 r1 r2 r3 r4 : Pos) : List Stmt :=
  [.Expr (.Call (.Attribute (.Call (.Name "super" q1) [] [] q2) "__init__" q3) [.JoinedStr [.Constant (.str tx) 0 q4, .FormattedValue (.Name F q5) 114 none q6] q7] [] q8) q9,
   .Assign [.Attribute (.Name "self" r1) F r2] (.Name F r3) r4]
def iS (F : Str) : Scope := { kind := .function, names := [(PySem.Str.ofString "self", .local), (F, .local), (PySem.Str.ofString "__class__", .free), (PySem.Str.ofString "super", .globalImplicit)], isGenerator := false, isCoroutine := false, more := [] }
/-- what the written part says of the class at C, its __init__ at fI, its field F -/
structure ExT (P : Program) (K : Frag) (mg : Str → Option Value) (C fI : Addr) (F : Str) (B newId initId : String) (bmB : List Value) : Prop where
  cls : ∃ nm q N bs bm sn sub ab col dd k0 k1 k2 k3 k5, K.lookup C = some (excClassObj nm q C N bs bm true sn sub ab col dd k0 k1 k2 k3 k5 newId) ∧ excTail bmB bm = true
  sa : findIn K (.ref C) "__setattr__" = some (some (.builtin "object.__setattr__"))
  ga : findIn K (.ref C) "__getattribute__" = some (some (.builtin "BaseException.__getattribute__"))
  gg : findIn K (.ref C) "__getattr__" = some none
  noF : findIn K (.ref C) F = some none
  iC : findIn K (.ref C) "__init__" = some (some (.ref fI))
  tI : typeIn K (.ref fI) = some (.type "function")
  kC : keepIn K (.ref C) = true
  exC : subIn K (.ref C) (.type "BaseException") = some true
  tyC : typeIn K (.ref C) = some (.type "type")
  hdC : hasDictIn K C = true
  sup : ks_superIn K C C "__init__" = some (some (.builtin initId))
  hB : subIn K (.ref C) (.type B) = some true
  self : mroIn K C (.ref C) = some true
  opq : nsIn K cStatics "thirdparty.any" = some none
  nsup : nsIn K mainGlobals "super" = some none
  /-- isinstance -/
  ca : findIn K (.ref C) "__class__" = some (some (.builtin "object.__class__"))
  cn : specialIn K (.builtin "object.__class__") "__get__" = some (some (.builtin "getset_descriptor.__get__"))
  ct : takesIn K (.builtin "object.__class__") = some true
  cm : mroIn K C (.type "object") = some true
  fn : ∃ (oc : Value) (od : Option Addr) (doc pm : Value) (an : Option Addr) (cda cc : Addr) (ct : Value) (osl : Array (Option Value)) (p1 p2 q1 q2 q3 q4 q5 q6 q7 q8 q9 r1 r2 r3 r4 : Pos) (qual tx : Str), (q3.endLine == q8.line) = true ∧
    K.lookup fI = some ⟨oc, od, .func (fnX "__init__" qual (iA F p1 p2) (iB F tx q1 q2 q3 q4 q5 q6 q7 q8 q9 r1 r2 r3 r4) (iS F) [("__class__", cc)] .none .none doc pm an (.ref cda) ct), osl⟩ ∧ codeIn K (.ref cda) qual = true ∧ tx.length ≤ 200 ∧
    (∃ cl cld csl, K.lookup cc = some ⟨cl, cld, .cell (some (.ref C)), csl⟩) ∧
    ∃ ccl cdd vs ccs file tf, K.lookup cda = some ⟨ccl, cdd, .fields vs, ccs⟩ ∧ vs[2]? = some (.str file tf) ∧ ((P.main.file : Str) == file) = true
  top : (P.main.scope.names.lookup ("super" : Str)).isSome = false
/-- the field's name -/
structure FName (F : Str) : Prop where
  l1 : (iS F).names.lookup F = some .local
  l2 : (F == ("__debug__" : Str)) = false
  l3 : (("self" : Str) == F) = false
  l4 : (F == ("self" : Str)) = false
  l5 : (iS F).names.lookup ("__class__" : Str) = some .free
  l6 : (iS F).names.lookup ("super" : Str) = some .globalImplicit
  l7 : (iS F).names.lookup ("self" : Str) = some .local
  bd : ∀ (qual : Str) (p1 p2 : Pos) (body : List Stmt) (cl : List (Str × Addr)) (doc pm cdv ct : Value) (an : Option Addr) (x v : Value), bindArgs (fnX "__init__" qual (iA F p1 p2) body (iS F) cl .none .none doc pm an cdv ct) ⟨[x, v], []⟩ = pure [(("self" : Str), x), (F, v)]
  bk : ∀ (qual : Str) (p1 p2 : Pos) (body : List Stmt) (cl : List (Str × Addr)) (doc pm cdv ct : Value) (an : Option Addr) (x v : Value), bindArgs (fnX "__init__" qual (iA F p1 p2) body (iS F) cl .none .none doc pm an cdv ct) ⟨[x], [(F, v)]⟩ = pure [(("self" : Str), x), (F, v)]
/-- what __init__ leaves of a fresh exception at x -/
structure InitEnd (h h' : Heap) (x C dx t1 : Addr) (F : Str) (v : Value) : Prop where
  keep : ∀ b o, b ≠ x → h.get? b = some o → h'.get? b = some o
  obj : h'.get? x = some { cls := .ref C, dict := some dx, data := .fields #[.ref t1, .none, .none, .none, .bool false, .none] }
  dbig : h.objs.size ≤ dx
  dne : dx ≠ x
  ns : h'.Ns1 dx (fun y => if y = F then some v else none)
/-- how v is shown: some text of bounded length, nothing of the heap is changed -/
def Shown (prog : Program) (w : World) (A : Around) (h : Heap) (v : Value) : Prop :=
  ∀ (D : Around) (E : Value → Shared → Prop) (Q : Value → Shared → Prop) (s : Shared), D.guards = A.guards → D.units ≤ A.units + 8 → (∀ b o, h.get? b = some o → s.heap.get? b = some o) →
    (∀ (x : Str) (u : Tok) (h' : Heap) (tk : Tok), x.length ≤ 1000000 → (∀ b o, s.heap.get? b = some o → h'.get? b = some o) → Q (.str x u) { s with heap := h', toks := tk }) → wpAny (model prog w) D (pyReprObj v) Q E s
section
variable {prog : Program} {w : World} {A : Around} {E : Value → Shared → Prop} {R : Result → Shared → Prop} {s : Shared} {K : Frag} {mg mb : Str → Option Value} {C fI : Addr} {F : Str} {B newId initId : String} {bmB : List Value}
theorem init_run (FB : BaseX B newId initId bmB) (T : ExT prog K mg C fI F B newId initId bmB) (N : FName F) {x t0 : Addr} {v : Value} (X : K.In s.heap) (hlim : s.heap.NoLimit) (hg : s.heap.Ns mainGlobals mg) (hmg : mg "super" = none) (hb : s.heap.Ns builtinsNs mb) (hmb : mb "super" = some (.type "super"))
    (hx : s.heap.get? x = some (excO C t0)) (hnx : K.lookup x = none) (hroom : A.depth < recursionLimit) (hsh : Shown prog w A s.heap v)
    (hq : ∀ h' tk dx t1, InitEnd s.heap h' x C dx t1 F v → R (.ok (.ret .none)) { s with heap := h', toks := tk }) :
    codeAny (model prog w) A (.call (.ref fI) ⟨[.ref x, v], []⟩) R s := by
  obtain ⟨oc, od, doc, pm, an, cda, cc, ct, osl, p1, p2, q1, q2, q3, q4, q5, q6, q7, q8, q9, r1, r2, r3, r4, qual, tx, hpos, ho, hcd, htx, ⟨cl, cld, csl, hcc⟩, ccl, cdd, vs, ccs, file, tf, hcode, hvs, hfile⟩ := T.fn
  obtain ⟨nm, q, N', bs, bm, sn, sub, ab, col, dd, k0, k1, k2, k3, k5, hC, hbm⟩ := T.cls
  have hcl : clsIn K C = some { name := nm, bases := bs, mro := .ref C :: bm, ns := N', qualname := q, hasDict := true, slotNames := sn, subclasses := sub, abstract := ab, collection := col, hasDel := false } := by unfold clsIn; rw [hC] <;> rfl
  refine ks_codeAny_call_defAt (binds := [("self", .ref x), (F, v)]) hroom (X _ _ ho) rfl hlim (codeRec_of X hcd) rfl (BindsTo.of_eq (N.bd ..)) (by intro y hy; simp only [iS, List.mem_cons, List.mem_nil_iff, or_false] at hy; rcases hy with rfl | rfl | rfl | rfl <;> simp) (fun y hy => ?_) (fun h₁ hn hk => ?_) rfl rfl rfl
  · simp only [List.mem_cons, List.mem_nil_iff, or_false] at hy
    rcases hy with rfl | rfl
    · rfl
    · exact N.l1
  · have X₁ : K.In h₁ := X.keeps hk
    have hx₁ := hk _ _ hx
    have mself : (fun y => [(("self" : Str), Value.ref x), (F, v)].reverse.lookup y) ("self" : Str) = some (.ref x) := by
      show List.lookup ("self" : Str) [(F, v), (("self" : Str), Value.ref x)] = some (.ref x)
      rw [List.lookup_cons, N.l3]
      rfl
    have mF : (fun y => [(("self" : Str), Value.ref x), (F, v)].reverse.lookup y) F = some v := by
      show List.lookup F [(F, v), (("self" : Str), Value.ref x)] = some v
      rw [List.lookup_cons, beq_self_eq_true]
    have hD1 : h₁.get? C = some (excClassObj nm q C N' bs bm true sn sub ab col dd k0 k1 k2 k3 k5 newId) := X₁ _ _ hC
    refine ks_wpAt_execs_cons (ks_wpAt_Expr_any (ks_wpAt_MethodCall ?_ (eval_mcall hpos (by rfl))) rfl rfl)
    refine ks_wpAt_super_base (f := fI) (cc := cda) N.l6 N.l5 rfl rfl (X₁ _ _ ho) rfl rfl rfl (X₁ _ _ hcode) rfl hvs hfile T.top ?_
    refine ks_loadName_global rfl N.l6 (loadGlobal_builtin (mg := mg) (mb := mb) (hg.keeps hk) hmg (hb.keeps hk) hmb ⟨rfl, ?_⟩)
    refine wpAny_loadName_free rfl N.l5 rfl ⟨_, X₁ _ _ hcc, rfl⟩ ?_
    refine wpAny_loadName_local rfl N.l7 hn mself ?_
    refine ks_wpAny_isType_cls hD1 rfl ⟨rfl, ?_⟩
    refine ks_wpAny_call_super hD1 rfl hx₁ rfl (fun c z => by cases z) (looks_mroIn X₁ T.self) (fun h₂ e₂ k₂ => ?_)
    have X₂ : K.In h₂ := X₁.keeps k₂
    have I₂ : InstAt h₂ x (excO C t0) C none := ⟨k₂ _ _ hx₁, rfl, rfl, trivial⟩
    have hxC : x ≠ C := fun z => by
      rw [z, hD1] at hx₁
      cases hx₁
    have hsup := T.sup
    unfold ks_superIn at hsup
    rw [hcl] at hsup
    refine kxs_getMethod FB.kx e₂ (looks_opaque X₂ T.opq) (l₀ := .ref C :: bm) (fun A Q E s k q => wpAny_bind ((looks_clsIn X₂ hcl) A _ E s k (wpAny_pure q))) rfl X₂ hsup (I₂.type.andThen (looks_subIn X₂ T.hB)) hxC rfl ?_
    show wpAny _ _ (callWith q8 (.ref h₂.objs.size) [] _ []) _ _ _
    refine kxs_callWith (i := initId) (x := x) rfl ?_
    refine evalArgs_plain (spliced_cons ?_)
    have k₃ : ∀ b o, s.heap.get? b = some o → (h₂.push (kxs_mw initId x)).get? b = some o := fun b o e => Heap.get?_push_of_some _ (k₂ _ _ (hk _ _ e))
    have hmw : (h₂.push (kxs_mw initId x)).get? h₂.objs.size = some (kxs_mw initId x) := Heap.get?_push_at rfl rfl
    refine wpAny_JoinedStr (pos := q7) ?_
    refine Joins_cons (Constant_str ⟨tx, _, rfl, ?_, ?_⟩)
    · show (Str.empty ++ tx).length ≤ sizeLine
      rw [strLen_append, sizeLine_eq]
      have : Str.empty.length = 0 := rfl
      omega
    refine Joins_cons (wpAny_FormattedValue_repr (wpAny_Name (wpAny_loadName_local rfl N.l1 (hn.keeps fun b o e => Heap.get?_push_of_some _ (k₂ _ _ e)) mF ?_) N.l2))
    refine hsh _ _ _ _ (by rfl) (by show A.units + 3 ≤ _; omega) k₃ fun y u h₄ tk₄ hy k₄ => ?_
    have hyz : y.length ≤ sizeLine := Nat.le_trans hy (by rw [sizeLine_eq]; decide)
    refine PyProof.Rows.formatField_str (fun u' tk' => ⟨y, u', rfl, ?_, ?_⟩) hyz
    · rw [strLen_append, strLen_append, sizeLine_eq]
      have : Str.empty.length = 0 := rfl
      omega
    refine Joins_nil ⟨?_, spliced_nil ⟨?_, ?_⟩⟩
    · rw [strLen_append, strLen_append, sizeLine_eq]
      have : Str.empty.length = 0 := rfl
      omega
    · exact k₄ _ _ hmw
    have hx₄ : h₄.get? x = some (excO C t0) := k₄ _ _ (k₃ _ _ hx)
    have hC₄ := k₄ _ _ (k₃ _ _ (X _ _ hC))
    refine call_mw FB hC₄ hx₄ (k₄ _ _ hmw) (by show 1 ≤ sizeLine; rw [sizeLine_eq]; decide) fun h₅ t₅ k₅ hx₅ => ?_
    -- self.F = F
    have k₀₄ : ∀ b o, s.heap.get? b = some o → h₄.get? b = some o := fun b o e => k₄ _ _ (k₃ _ _ e)
    have X₅ : K.In h₅ := fun b o e => k₅ b o (fun z => by rw [z, hnx] at e; cases e) (k₀₄ _ _ (X _ _ e))
    have hn₅ : h₅.Ns s.heap.objs.size (fun y => [(("self" : Str), Value.ref x), (F, v)].reverse.lookup y) := by
      obtain ⟨oL, es, ep, e1, e2⟩ := hn
      have hxL : s.heap.objs.size ≠ x := Nat.ne_of_gt (Heap.lt_size hx)
      exact ⟨oL, es, ep, k₅ _ _ hxL (k₄ _ _ (Heap.get?_push_of_some _ (k₂ _ _ e1))), e2⟩
    refine wpAt_of_wpAny (wpAny_execs_cons (plainObj_wpAny_Assign_Attribute ?_))
    refine wpAny_Name (wpAny_loadName_local rfl N.l1 hn₅ mF ?_) N.l2
    refine wpAny_Name (wpAny_loadName_local rfl N.l7 hn₅ mself ?_) (by decide)
    refine set_plain X₅ (ox := excO C t₅) (od := none) ⟨hx₅, rfl, rfl, trivial⟩ T.sa ?_
    refine exc_osaB FB X₅ hx₅ hcl hbm rfl T.noF (fun h₆ tk₆ dx k₆ dn dne hx₆ hn₆ => ?_)
    refine wpAny_execs_nil ?_
    refine hq h₆ tk₆ dx t₅ ⟨fun b o hb e => k₆ b o hb (k₅ b o hb (k₀₄ b o e)), hx₆, ?_, dne, hn₆⟩
    exact Nat.le_of_lt (Nat.lt_of_lt_of_le hn₅.lt dn)
/-- a made exception of the class at C -/
structure OwnMade (h h' : Heap) (e C d : Addr) (F : Str) (v : Value) : Prop where
  keep : ∀ b o, h.get? b = some o → h'.get? b = some o
  new : h.objs.size ≤ e
  obj : ∃ t1, h'.get? e = some { cls := .ref C, dict := some d, data := .fields #[.ref t1, .none, .none, .none, .bool false, .none] }
  dbig : h.objs.size ≤ d
  dne : d ≠ e
  ns : h'.Ns1 d (fun y => if y = F then some v else none)
theorem exc_made (FB : BaseX B newId initId bmB) (T : ExT prog K mg C fI F B newId initId bmB) (N : FName F) {v : Value} (X : K.In s.heap) (hlim : s.heap.NoLimit) (hg : s.heap.Ns mainGlobals mg) (hmg : mg "super" = none) (hb : s.heap.Ns builtinsNs mb) (hmb : mb "super" = some (.type "super"))
    (hroom : A.depth + 1 < recursionLimit) (hsh : ∀ B : Around, B.guards = A.guards → B.units ≤ A.units + 8 → Shown prog w B s.heap v)
    (hq : ∀ h' tk e d, OwnMade s.heap h' e C d F v → R (.ok (.ret (.ref e))) { s with heap := h', toks := tk }) :
    codeAny (model prog w) A (.call (.ref C) ⟨[v], []⟩) R s := by
  obtain ⟨nm, q, N', bs, bm, sn, sub, ab, col, dd, k0, k1, k2, k3, k5, hC, hbm⟩ := T.cls
  obtain ⟨hp, g, dr, tk, os⟩ := s
  have k : ∀ b o, hp.get? b = some o → ((hp.push (kdv_tup [v])).push (excO C hp.objs.size)).get? b = some o := fun b o e => Heap.get?_push_of_some _ (Heap.get?_push_of_some _ e)
  have hget : ((hp.push (kdv_tup [v])).push (excO C hp.objs.size)).get? (hp.objs.size + 1) = some (excO C hp.objs.size) := by heap_get
  have hnx : K.lookup (hp.objs.size + 1) = none := by
    cases e : K.lookup (hp.objs.size + 1) with
    | none => rfl
    | some o =>
      have z : hp.get? (hp.objs.size + 1) = some o := X _ _ e
      exact absurd (Nat.lt_of_succ_lt (Heap.lt_size z)) (Nat.lt_irrefl _)
  refine call_own FB.exc (fun X => excTail_contains X bm hbm) (X _ _ hC) (looks_findIn X T.iC) (fun self => bind_fn X self T.tI) (by show 1 ≤ sizeLine; rw [sizeLine_eq]; decide) ?_
  refine init_run (s := ⟨(hp.push (kdv_tup [v])).push (excO C hp.objs.size), g, dr, tk, os⟩) FB T N (X.keeps k) (hlim.keeps k) (hg.keeps k) hmg (hb.keeps k) hmb hget hnx ?_ ?_ fun h' tk' dx t1 hE => ?_
  · show A.depth + 1 < recursionLimit
    exact hroom
  · intro D E' Q' s' hdg hdu hk hQ
    refine hsh _ ?_ ?_ D E' Q' s' hdg hdu (fun b o e => hk _ _ (k _ _ e)) hQ
    · rfl
    · rw [L2.make_units]; omega
  · obtain ⟨k', hx, dn, dne, hns⟩ := hE
    have old : ∀ b o, hp.get? b = some o → h'.get? b = some o := fun b o e => k' b o (Nat.ne_of_lt (Nat.lt_succ_of_lt (Heap.lt_size e))) (k b o e)
    have z : hp.objs.size + 1 + 1 ≤ dx := by
      first
        | (simpa only [Heap.size_push] using dn)
        | exact dn
        | (have q := dn; rw [Heap.size_push, Heap.size_push] at q; exact q)
    exact ⟨rfl, hq h' tk' (hp.objs.size + 1) dx ⟨old, Nat.le_succ _, ⟨t1, hx⟩, Nat.le_trans (Nat.le_trans (Nat.le_succ _) (Nat.le_succ _)) z, dne, hns⟩⟩
end
end RmX
set_option Elab.async false
set_option linter.all false
set_option maxRecDepth 100000
set_option maxHeartbeats 4000000
namespace Rm
open PySem PySem.Spec PyProof.Rows L2 RmX

/-! ### data, shown -/
/-- what may stand in an error or be handed to repr -/
def Fit (d : PyData) : Prop := d.showable = true ∧ d.hasDict = false ∧ d.depth ≤ 20 ∧ d.shown.length ≤ 1000000
theorem shown_of {prog : Program} {w : World} {A : Around} {h : Heap} {u : Value} {d : PyData} {as : List Addr} (hg : A.guards = some []) (hu : A.units + 60 < cLine) (rd : Reads h u d as) (f : Fit d) : Shown prog w A h u := by
  intro D E Q s hdg hdu hk hQ
  obtain ⟨hs, hnd, hdp, hz⟩ := f
  have hz' : d.shown.length ≤ sizeLine := Nat.le_trans hz (by rw [sizeLine_eq]; decide)
  cases rd with
  | none =>
    simp only [PyData.shown] at hz
    exact pyReprObj_none (hQ _ _ s.heap _ hz fun _ _ e => e)
  | bool =>
    simp only [PyData.shown] at hz
    exact pyReprObj_bool (hQ _ _ s.heap _ hz fun _ _ e => e)
  | int =>
    simp only [PyData.shown] at hz
    exact pyReprObj_int (by simpa [PyData.showable] using hs) (hQ _ _ s.heap _ hz fun _ _ e => e)
  | str =>
    simp only [PyData.shown] at hz hz'
    exact pyReprObj_str (hQ _ _ s.heap _ hz fun _ _ e => e) hz'
  | list h1 h2 h3 h4 => exact pyReprObj_of_reads (.list h1 h2 h3 h4) hs (PyData.noDict_hsm hnd) (hdg.trans hg) (by omega) hk (fun h' u tk hk' => hQ _ _ h' tk hz hk') hz'
  | tuple h1 h2 h3 h4 => exact pyReprObj_of_reads (.tuple h1 h2 h3 h4) hs (PyData.noDict_hsm hnd) (hdg.trans hg) (by omega) hk (fun h' u tk hk' => hQ _ _ h' tk hz hk') hz'
  | dict h1 h2 h3 h4 h5 => exact absurd hnd (by simp [PyData.hasDict])

/-! ### C(e): an own exception is made -/
theorem relO_one {F : Str} {v : V} {v' : Value} (r : RelV v v') (f : Str) : RelO (List.lookup f [(F, v)]) (if f = F then some v' else none) := by
  by_cases hw : f = F
  · subst hw
    rw [if_pos rfl]
    have q : List.lookup f [(f, v)] = some v := by simp [List.lookup]
    rw [q]
    exact r
  · rw [if_neg hw]
    have qw : (f == F) = false := by simpa using hw
    have q2 : List.lookup f [(F, v)] = none := by simp [List.lookup, qw]
    rw [q2]
    trivial
def tMkX (K : PySem.W.Frag) (C : Addr) (F : Str) (ta : TA) : L2.St → Hp → XK → Prop := fun σ H Q => ta σ H fun vs H1 => ∃ v d, vs = [v] ∧ Dp K H1 v d ∧ Fit d ∧ ∀ dx, H1 dx = none → Q (.ref C) (some dx) (upd H1 dx (.xd [(F, v)]))
section
variable {X : Cx} {C fI : Addr} {F : Str} {B newId initId : String} {bmB : List Value} {a : Expr} {ta : TA} {x : Str} {p pos : Pos} {k : Nat}
theorem pmk_x (FB : BaseX B newId initId bmB) (T : ExT X.prog X.K X.mg C fI F B newId initId bmB) (N : FName F) (hr : Room k X.A) (hgd : X.A.guards = some []) (hg : Gl X x) (gC : X.mg x = some (.ref C)) (hsu : X.mg "super" = none) (ha : PA X [a] ta)
    (hdb : (x == ("__debug__" : Str)) = false := by decide)
    (he : starEach (a :: []) X.env = (false, eval a X.env) :: starEach [] X.env := by rfl) (hpl : (backTo pos (starEach [] X.env)).any (·.1) = false := by rfl) :
    PMk X (.Call (.Name x p) [a] [] pos) (tMkX X.K C F ta) := by
  intro pins s σ H Q I h
  refine wpAny_Call_Name_kw (ld_glob I hg gC ?_ hdb)
  refine PySem.W.callWith_K (h₀ := X.base) I.ok.mod.kin T.kC (thn (ha.run pos pins s σ H _ I h) fun us s1 hh => ?_) he hpl
  obtain ⟨vs, H1, I1, r1, v, d, ev, hd, hf, q1⟩ := hh
  subst ev
  refine ⟨I1.kIn, ?_⟩
  cases r1 with
  | cons rv rn =>
    rename_i v' us'
    cases rn
    show wpAny _ _ (call (.ref C) [v']) _ _ _
    have hlim := I1.nolimit
    obtain ⟨as, rd⟩ := Dp.reads I1 d v v' hd rv
    have hun := hr.un
    have hdp := hr.dp
    obtain ⟨mb, hb1, hb2⟩ := I1.mod.blt
    obtain ⟨hp, g, dr, tk, os⟩ := s1
    refine wpAny_call (exc_made FB T N I1.kIn hlim (I1.mod.glob.keeps I1.bk) hsu (hb1.keeps I1.bk) ((hb2 _ (by decide)).trans (by decide +kernel)) (by omega) (fun D hD hDu => shown_of (hD.trans hgd) (by omega) rd hf) fun h' tk' e d M => ?_)
    show MkP X pins σ Q (.ref e) ⟨h', g, dr, tk', os⟩
    obtain ⟨t1, hoe⟩ := M.obj
    have hns := M.ns
    obtain ⟨G', g1, g2⟩ := restrict h' fun b => decide (b ≠ e)
    have gk : ∀ b, b ≠ e → G'.get? b = h'.get? b := fun b hb => g1 b (decide_eq_true hb)
    have ge : G'.get? e = none := g2 e (by simp)
    have old : ∀ b o, hp.get? b = some o → G'.get? b = some o := fun b o q => (gk b (Nat.ne_of_lt (Nat.lt_of_lt_of_le (Heap.lt_size q) M.new))).trans (M.keep b o q)
    have ob : ObjOk X.prog X.w (upd H1 d (.xd [(F, v)])) G' d (.xd [(F, v)]) :=
      ⟨_, hns.at (fun o q => (gk d M.dne).trans q), fun f => relO_one rv f⟩
    have J : Inv X pins σ (upd H1 d (.xd [(F, v)])) ⟨G', g, dr, tk', os⟩ := I1.laid (t' := tk') old M.dbig ob
    refine ⟨e, _, _, ⟨G', g, dr, tk', os⟩, _, .ref C, some d, rfl, J, fun b o q => ?_, ge, hoe, ⟨rfl, rfl⟩, rfl, rfl, ?_, rfl, I1.bare, raises_own T.exC T.tyC, q1 d (I1.hok.fresh M.dbig)⟩
    · by_cases hb : b = e
      · have q' : G'.get? b = some o := q
        rw [hb, ge] at q'; cases q'
      · exact (gk b hb).symm.trans q
    · rw [upd_ne (Ne.symm M.dne)]
      exact I1.hok.fresh M.new
/-- raise C(e) -/
def tRaiseX (K : PySem.W.Frag) (C : Addr) (F : Str) (W : WX) (ta : TA) : TS := fun _ σ H => tMkX K C F ta σ H fun cls d H' => W cls d σ H'
theorem ps_raiseX {W : WX} {pos2 : Pos} (hc : X.calm = true) (FB : BaseX B newId initId bmB) (T : ExT X.prog X.K X.mg C fI F B newId initId bmB) (N : FName F) (hr : Room k X.A) (hgd : X.A.guards = some []) (gC : X.mg x = some (.ref C)) (hsu : X.mg "super" = none) (tk : Takes X W) (ha : PA X [a] ta) (hg : Gl X x := by rfl)
    (hdb : (x == ("__debug__" : Str)) = false := by decide) (he : starEach (a :: []) X.env = (false, eval a X.env) :: starEach [] X.env := by rfl) (hpl : (backTo pos (starEach [] X.env)).any (·.1) = false := by rfl) :
    PS X (.Raise (some (.Call (.Name x p) [a] [] pos)) none pos2) (tRaiseX X.K C F W ta) := ps_raise hc tk (pmk_x FB T N hr hgd hg gC hsu ha hdb he hpl)
end

/-! ### an exception that was caught and is kept by a name -/
/-- an exception of the class C at a, its dict at dx -/
def exv (a C dx : Addr) : HO := .ext fun h => ∃ (oe : Obj) (vs : Array Value), h.get? a = some oe ∧ oe.cls = .ref C ∧ oe.dict = some dx ∧ oe.data = .fields vs
theorem exv_ok {P : Program} {w : World} {H : Hp} {h : Heap} {a C dx : Addr} {oe : Obj} {vs : Array Value} (e : h.get? a = some oe) (c : oe.cls = .ref C) (d : oe.dict = some dx) (f : oe.data = .fields vs) : ObjOk P w H h a (exv a C dx) :=
  ⟨⟨oe, vs, e, c, d, f⟩, ⟨oe, e⟩, fun _ _ ⟨o, v, q, r⟩ k => ⟨o, v, k o q, r⟩⟩
theorem exv_at {P : Program} {w : World} {H : Hp} {h : Heap} {a C dx : Addr} (hok : HOk P w H h) (e : H a = some (exv a C dx)) : ∃ (oe : Obj) (vs : Array Value), h.get? a = some oe ∧ oe.cls = .ref C ∧ oe.dict = some dx ∧ oe.data = .fields vs := by
  have x : ObjOk P w H h a (.ext fun h => ∃ (oe : Obj) (vs : Array Value), h.get? a = some oe ∧ oe.cls = .ref C ∧ oe.dict = some dx ∧ oe.data = .fields vs) := hok a _ e
  exact x.1
section
variable {X : Cx} {pins : List (Addr × Obj)} {σ : L2.St} {H : Hp} {s : Shared}
/-- an object that was laid since the entry is tracked from now on -/
theorem track {a : Addr} {o : HO} (I : Inv X pins σ H s) (na : H a = none) (nL : a ≠ X.env.locals) (nC : ∀ x c, X.env.cells.lookup x = some c → c ≠ a) (nP : ∀ p ∈ X.pn ++ pins, p.1 ≠ a) (n0 : X.s_0.heap.get? a = none)
    (new : ObjOk X.prog X.w (upd H a o) s.heap a o) : Inv X pins σ (upd H a o) s := by
  have ne0 : ∀ b u, X.s_0.heap.get? b = some u → b ≠ a := fun b u e z => by rw [z, n0] at e; cases e
  have neH : ∀ b u, H b = some u → b ≠ a := fun b u e z => by rw [z, na] at e; cases e
  refine ⟨I.ok, I.os, I.bare, ⟨I.base.keep, I.base.slot, fun b u e n hx => ?_, I.base.there, fun b xs e => ?_, fun b u xs e => ?_, fun b ps e => ?_⟩, I.loc, I.cell, ?_, fun x c e => ?_, fun p hp => ?_, fun b u e => ?_, I.len⟩
  · rw [upd_ne (ne0 b u e)]
    exact I.base.free b u e n hx
  · have q := I.base.tups b xs e
    rw [upd_ne (neH b _ q)]
    exact q
  · have q := I.base.frzs b u xs e
    rw [upd_ne (neH b _ q)]
    exact q
  · obtain ⟨m, q⟩ := I.base.tbls b ps e
    exact ⟨m, by rw [upd_ne (neH b _ q)]; exact q⟩
  · rw [upd_ne (Ne.symm nL)]
    exact I.free
  · rw [upd_ne (nC x c e)]
    exact I.freeC x c e
  · obtain ⟨e, n, r⟩ := I.pin p hp
    exact ⟨e, by rw [upd_ne (nP p hp)]; exact n, r⟩
  · by_cases hb : b = a
    · subst hb
      rw [upd_same] at e
      cases e
      exact new
    · rw [upd_ne hb] at e
      exact (I.hok b u e).stay (fun _ _ _ q => q) (fun c q => by rw [upd_ne (neH c _ q)]; exact q) fun c xs q => by rw [upd_ne (neH c _ q)]; exact q
end
theorem flying_keeps {base h h' : Heap} {l : List Env} {e : Addr} {Z : Obj → Prop} (x : HandSPX.FlyingZ base l e Z h) (k : ∀ b o, h.get? b = some o → h'.get? b = some o) : HandSPX.FlyingZ base l e Z h' := by
  obtain ⟨a1, a2, a3, oe, vs, T, oT, ts, he, hz, hd, h1, hn, hT, ho, hts, h3⟩ := x
  exact ⟨fun b o e => k _ _ (a1 b o e), a2, a3.of_keeps fun b o e _ => ⟨o, k _ _ e, rfl⟩, oe, vs, T, oT, ts, k _ _ he, hz, hd, h1, hn, hT, k _ _ ho, hts, h3⟩

/-- what the clause «except (c1, c2, c3) as n: ..» wishes, where behind the suite the exception is kept -/
def wKeep (K : PySem.W.Frag) (c1 c2 c3 : Addr) (i : Nat) (ts : Addr → TS) (D : Ends) : WX := fun cls d σ H =>
  PySem.W.exmAny K cls [.ref c1, .ref c2, .ref c3] = some true ∧ ∃ C dx, cls = .ref C ∧ d = some dx ∧
    ∀ a, H a = none → ts a { nx := fun σ' H' => H' a = none ∧ D.nx (σ'.set i none) (upd H' a (exv a C dx)), rt := fun _ _ => False, bk := fun _ _ => False, ct := fun _ _ => False } (σ.set i (some (.ref a))) H
section
variable {X : Cx} {n x1 x2 x3 : Str} {p1 p2 p3 : Pos} {i : Nat} {c1 c2 c3 : Addr} {body suite : List Stmt} {b₀ : Stmt} {np pos pos' : Pos} {kt : Nat} {tb : WX → TS} {ts : Addr → TS}
theorem ps_try_keep (hs : X.stack = X.env :: X.outer) (hf : X.env.frame = some X.env.locals) (hN : X.N.Nodup) (hi : X.N[i]? = some n) (hln : X.env.kindOf n = some .local) (hex : X.ex = [])
    (hc1 : Names X x1 (.ref c1)) (hc2 : Names X x2 (.ref c2)) (hc3 : Names X x3 (.ref c3))
    (hb : ∀ (W : WX) (pn : List (Addr × Obj)) (xe : Value → Shared → Prop), Takes (X.tr pn xe) W → PassesOwn (model X.prog X.w) X.A X.env xe → PSs (X.tr pn xe) body (tb W))
    (hsu : ∀ (a : Addr) (oe : Obj) (pn : List (Addr × Obj)), PSs (X.suite a ((a, oe) :: pn)) (b₀ :: suite) (ts a)) :
    PS X (.Try body [.ExceptHandler (some (.Tuple [.Name x1 p1, .Name x2 p2, .Name x3 p3] kt np)) (some n) (b₀ :: suite) pos'] [] [] pos) (fun D σ H => tb (wKeep X.K c1 c2 c3 i ts D) D σ H) := by
  refine ⟨fun pins s σ H D I h => ?_⟩
  have ok := I.ok
  have hfr : X.A.frames = some (X.env :: X.outer) := by rw [ok.frames, hs]
  have hloc : Loc X.env.scope n := .inl hln
  refine wpAny_Try_except ?_
  refine wpAny_mono ((hb (wKeep X.K c1 c2 c3 i ts D) (X.pn ++ pins) (fun e s₁ => wpAny (model X.prog X.w) X.A (noteFrame e X.env) (fun _ s₂ => wpAny (model X.prog X.w) X.A (setFlight e none) (fun _ s₃ =>
    wpAny (model X.prog X.w) X.A (handleBy e X.env [.ExceptHandler (some (.Tuple [.Name x1 p1, .Name x2 p2, .Name x3 p3] kt np)) (some n) (b₀ :: suite) pos']) (SP X pins D) X.xe s₃) X.xe s₂) X.xe s₁) (fun u s' xx => ?_) PassesOwn.looking).run [] s σ H D (I.toTry _) h) (fun f s1 hsp => ?_) (fun e s1 he => he)
  · -- the catch
    obtain ⟨a, B, sI, pins', σ', H', cls, d, rfl, J', nb, up, sky, na, os, ag, hany, C, dx, rfl, rfl, hgo⟩ := xx
    have J : Inv X pins σ' H' sI := J'.ofTry ok
    have sky' : Sky B (X.env :: X.outer) a (Zc (.ref C) (some dx)) X.env.locals s'.heap := by rw [← hs]; exact sky
    show wpAny (model X.prog X.w) X.A (noteFrame (.ref a) X.env) _ _ _
    refine Sky.land Zc.steady hfr hf sky' fun h3 fl3 up3 => ?_
    have J3 : Inv X pins σ' H' { s' with heap := h3 } := J.landed nb fl3.1 (up.trans up3) os ag
    obtain ⟨oe3, vs3, he3, hz3, hd3⟩ := fl3.there
    have notFr : ∀ {h : Heap} {o : Obj} {vs : Array Value}, h.FunFrames B (X.env :: X.outer) → h.get? a = some o → o.data = .fields vs → a ∉ frs (X.env :: X.outer) := fun {h o vs} ff e dd hm => by
      obtain ⟨_, o', e', hnf⟩ := ff.mem hm
      rw [e] at e'; cases e'
      exact hnf _ dd
    have nfr := notFr fl3.2.2.1 he3 hd3
    have nfs : a ∉ frs X.stack := by rw [hs]; exact nfr
    have nL : a ≠ X.env.locals := fun z => nfr (List.mem_filterMap.mpr ⟨X.env, List.mem_cons_self, by rw [hf, z]⟩)
    have nF : a ∉ X.fs := fun hm => by
      obtain ⟨e, he, q⟩ := List.mem_filterMap.mp hm
      exact nfr (List.mem_filterMap.mpr ⟨e, List.mem_cons_of_mem _ he, q⟩)
    have nI : sI.heap.get? a = none := by
      cases e : sI.heap.get? a with
      | none => rfl
      | some o =>
        have z := nb a o e nfs
        rw [fl3.2.1] at z
        cases z
    have n0 : X.s_0.heap.get? a = none := by
      cases e : X.s_0.heap.get? a with
      | none => rfl
      | some o =>
        obtain ⟨o', q⟩ := J.base.there a o e (by rw [hex]; exact fun z => nomatch z)
        rw [nI] at q
        cases q
    have nP : ∀ p ∈ X.pn ++ pins, p.1 ≠ a := fun p hp z => by
      have q := (J.pin p hp).1
      rw [z, nI] at q
      cases q
    have S3 := J3.suite he3 hd3 na nL nF
    refine wpAny_handleBy_cons (codeAny_handlers_test ?_) (by intro q; cases q)
    have ld : ∀ {x : Str} {c : Value} {q : Pos} {Q : Value → Shared → Prop} {E : Value → Shared → Prop}, Names X x c → Q c { s' with heap := h3 } → wpAny (model X.prog X.w) (X.A.mark (some (.ref a))) (eval (.Name x q) X.env) Q E { s' with heap := h3 } := fun {x c q Q E} hc q => by
      obtain ⟨hg, hdbg, hm | ⟨hm, hv, hnn⟩⟩ := hc
      · exact ld_glob (X := X.suite a ((a, oe3) :: (X.pn ++ pins))) S3 hg hm q hdbg
      · exact ld_blt (X := X.suite a ((a, oe3) :: (X.pn ++ pins))) S3 hg hm hv q hnn hdbg
    refine wpAny_Tuple_spliced ?_
    show wpAny _ _ (spliced ((false, eval (.Name x1 p1) X.env) :: (false, eval (.Name x2 p2) X.env) :: (false, eval (.Name x3 p3) X.env) :: [])) _ _ _
    refine Calls.spliced_cons (ld hc1 (Calls.spliced_cons (ld hc2 (Calls.spliced_cons (ld hc3 (Calls.spliced_nil ⟨by rw [sizeLine_eq]; show 3 ≤ 16777216; decide, ?_⟩))))))
    have kp : ∀ b o, h3.get? b = some o → (h3.push { cls := .type "tuple", data := .seq [Value.ref c1, .ref c2, .ref c3].toArray }).get? b = some o := fun b o e => Heap.get?_push_of_some _ e
    have fl3' := flying_keeps fl3 kp
    have he3' := kp _ _ he3
    have LT : PySem.W.Looks (model X.prog X.w) (h3.push { cls := .type "tuple", data := .seq [Value.ref c1, .ref c2, .ref c3].toArray }) (typeOf (.ref a)) (.ref C) := fun A Q E s k q => wpAny_typeOf_ref (k _ _ he3') (by rw [hz3.1]; exact q)
    have LM := PySem.W.exm_tup3 (M := model X.prog X.w) (J3.kIn.keeps kp) LT (Heap.get?_push_size h3 rfl) hany
    refine LM.here ?_
    show codeAny _ _ (.handlers (.ref a) [.ExceptHandler none (some n) (b₀ :: suite) pos'] X.env) _ _
    refine codeAny_handlers_suite_as ?_
    have up4 : s'.heap.UpToSlots (h3.push { cls := .type "tuple", data := .seq [Value.ref c1, .ref c2, .ref c3].toArray }) := up3.trans (Heap.UpToSlots.of_keeps kp)
    refine HandSPX.lands_againZ (s := ⟨h3.push { cls := .type "tuple", data := .seq [Value.ref c1, .ref c2, .ref c3].toArray }, s'.gens, s'.drawn, s'.toks, s'.os⟩) fl3' fun h4 fl4 up5 => ?_
    have J4 : Inv X pins σ' H' { s' with heap := h4 } := J.landed nb fl4.1 ((up.trans up4).trans up5) os ag
    obtain ⟨oe4, vs4, he4, hz4, hd4⟩ := fl4.there
    have S4 := J4.suite he4 hd4 na nL nF
    refine store_ok (X := X.suite a ((a, oe4) :: (X.pn ++ pins))) (v := .ref a) S4 hN hi hloc rfl (fun s5 S5 => ?_) (.inr hln)
    refine wpAny_mono ((hsu a oe4 (X.pn ++ pins)).run [] s5 _ H' _ S5 (hgo a na)) (fun f s6 hsp => ?_) (fun _ _ z => False.elim z)
    cases f with
    | next =>
      obtain ⟨σ6, H6, S6, n6, q6⟩ := hsp
      have J6 : Inv X pins σ6 H6 s6 := S6.unsuite ok
      obtain ⟨ha6, _, _, _, _⟩ := S6.pin (a, oe4) (List.mem_append_left _ List.mem_cons_self)
      have K6 : Inv X pins σ6 (upd H6 a (exv a C dx)) s6 := track J6 n6 nL (fun x c e z => by
        obtain ⟨v, o, ho, hd⟩ := J6.cell x c e
        rw [z, ha6] at ho
        cases ho
        rw [hd4] at hd
        cases hd) nP n0 (exv_ok ha6 hz4.1 hz4.2 hd4)
      show wpAny (model X.prog X.w) X.A (do bindName X.env n .none; unbindBehindTheSuite X.env n pos') _ X.xe s6
      exact gone_ok K6 hN hi hln fun s7 J7 => ⟨_, _, J7, q6⟩
    | brk =>
      obtain ⟨_, _, _, q6⟩ := hsp
      exact q6.elim
    | cont =>
      obtain ⟨_, _, _, q6⟩ := hsp
      exact q6.elim
    | ret u =>
      obtain ⟨_, _, _, _, _, q6⟩ := hsp
      exact q6.elim
  · cases f with
    | next =>
      obtain ⟨σ', H', J', q⟩ := hsp
      exact wpAny_execs_nil ⟨σ', H', J'.ofTry ok, q⟩
    | brk =>
      obtain ⟨σ', H', J', q⟩ := hsp
      exact ⟨σ', H', J'.ofTry ok, q⟩
    | cont =>
      obtain ⟨σ', H', J', q⟩ := hsp
      exact ⟨σ', H', J'.ofTry ok, q⟩
    | ret u =>
      obtain ⟨v, σ', H', J', r, q⟩ := hsp
      exact ⟨v, σ', H', J'.ofTry ok, r, q⟩
end

/-! ### a kept exception: its field, isinstance, is None -/
section
variable {X : Cx} {e : Expr} {te : TE} {pos : Pos} {F : Str} {B newId initId : String} {bmB : List Value}
/-- e.F -/
def tExF (P : Program) (K : PySem.W.Frag) (mg : Str → Option Value) (F : Str) (te : TE) : TE := fun σ H Q => te σ H fun x H1 => ∃ (a C dx fI : Addr) (B newId initId : String) (bmB : List Value) (v : V), x = .ref a ∧ ExT P K mg C fI F B newId initId bmB ∧ H1 a = some (exv a C dx) ∧ H1 dx = some (.xd [(F, v)]) ∧ Q v H1
theorem pe_exf (he : PE X e te) (hb : attributeBase e F X.env (eval e X.env) = eval e X.env := by rfl) : PE X (.Attribute e F pos) (tExF X.prog X.K X.mg F te) := by
  refine ⟨fun pins s σ H Q I h => ?_⟩
  refine attr_of hb (thn (he.run pins s σ H _ I h) fun u s1 hh => ?_)
  obtain ⟨x, H1, I1, rx, a, C, dx, fI, B, newId, initId, bmB, v, ex, T, ea, ed, q⟩ := hh
  subst ex
  obtain rfl : u = Value.ref a := rx
  obtain ⟨oe, vs, h1, h2, h3, h4⟩ := exv_at I1.hok ea
  have hx : ObjOk X.prog X.w H1 s1.heap dx (.xd [(F, v)]) := I1.hok dx _ ed
  obtain ⟨mA, hns, hr⟩ := hx
  obtain ⟨od, ho, hl⟩ := lookIn_ns hns
  have l : List.lookup F [(F, v)] = some v := by simp [List.lookup]
  obtain ⟨u, hu, ru⟩ := RelO.some_of (v := v) (o := mA F) (by rw [← l]; exact hr F)
  have J : PySem.W.InstAt s1.heap a oe C (some od) := ⟨h1, h2, by unfold PySem.W.notCls; rw [h4] <;> rfl, by rw [h3]; exact ho⟩
  exact HandSPX.exc_get I1.kIn J T.ga T.gg T.exC (PySem.W.findObj_own T.hdC T.noF rfl (by rw [hl, hu])) (handed_of ru) ⟨v, H1, I1.tok _, ru, q⟩
/-- isinstance(e, c), e a kept exception -/
def rIsX (P : Program) (K : PySem.W.Frag) (mg : Str → Option Value) : List V → Hp → VK → Prop := fun xs H Q => ∃ (a C dx fI : Addr) (F : Str) (B newId initId : String) (bmB : List Value) (c : V) (cv : Value) (b : Bool), xs = [.ref a, c] ∧ ExT P K mg C fI F B newId initId bmB ∧ H a = some (exv a C dx) ∧ (∃ fs, H dx = some (.xd fs)) ∧ ClsV c cv ∧ PySem.W.kitOne K (.ref C) cv = some b ∧ Q (.bl b) H
theorem call_isX : CallR X (.builtin "isinstance") (rIsX X.prog X.K X.mg) := by
  intro pins s σ H xs us Q I r h
  obtain ⟨a, C, dx, fI, F, B, newId, initId, bmB, c, cv, b, rfl, T, ea, ⟨fs, ed⟩, k, e, q⟩ := h
  obtain ⟨u1, u2, rfl, r1, r2⟩ := vals2 r
  cases (show u1 = Value.ref a from r1)
  have e2 := k.eq r2
  subst e2
  obtain ⟨oe, vs, h1, h2, h3, h4⟩ := exv_at I.hok ea
  obtain ⟨mA, hns, _⟩ := (show ObjOk X.prog X.w H s.heap dx (.xd fs) from I.hok dx _ ed)
  obtain ⟨od, ho, _⟩ := lookIn_ns hns
  have J : PySem.W.InstAt s.heap a oe C (some od) := ⟨h1, h2, by unfold PySem.W.notCls; rw [h4] <;> rfl, by rw [h3]; exact ho⟩
  obtain ⟨cd, hcd, _⟩ := PySem.W.any_some T.hdC
  exact PySem.W.kia_one (PySem.W.kitx_exc (by rw [hcd]; rfl) T.ga T.gg T.exC T.ca T.cn T.ct T.cm) I.kIn J e (fun z => nomatch z) fun tk => ⟨.bl b, H, I.tok tk, rfl, q⟩
end
end Rm
set_option Elab.async false
set_option linter.all false
set_option maxRecDepth 100000
set_option maxHeartbeats 4000000
/-! # Data: its type, the length of its text; calls by keywords alone; // by great numbers of any sign -/
namespace Rm
open PySem PySem.Spec PyProof.Rows L2 RmX
def tyN : PyData → String
  | .none => "NoneType" | .bool _ => "bool" | .int _ => "int" | .str _ => "str" | .list _ => "list" | .tuple _ => "tuple" | .dict _ => "dict"
theorem dpTy {K : PySem.W.Frag} {H : Hp} {x : V} {d : PyData} (h : Dp K H x d) : TyX K H x (.type (tyN d)) := by
  cases h with
  | non => exact .base .non
  | bl b => exact .base (.bl b)
  | int i => exact .base (.int i)
  | str x => exact .base (.str x)
  | lst h1 _ =>
    rcases h1 with (h1 | ⟨o, h1⟩) | ⟨o, its, n, h1, h2, _⟩
    · exact .base (.lst h1)
    · exact .base (.frz h1)
    · exact .kList h1 h2
  | tup h1 _ =>
    rcases h1 with (h1 | ⟨o, h1⟩) | ⟨o, its, n, h1, h2, _⟩
    · exact .base (.tup h1)
    · exact .fTuple h1
    · exact .kTuple h1 h2
theorem dp_same {K : PySem.W.Frag} {H H' : Hp} (s : Same H H') : ∀ {d : PyData} {x : V}, Dp K H x d → Dp K H' x d := by
  have sl : ∀ {a : Addr} {xs : List V}, SqL K H a xs → SqL K H' a xs := fun h => s.seq h
  have st : ∀ {a : Addr} {xs : List V}, SqT K H a xs → SqT K H' a xs := fun {a xs} h => by
    rcases h with (h | ⟨o, h⟩) | h
    · exact .inl (.inl (s _ _ h))
    · exact .inl (.inr ⟨o, s _ _ h⟩)
    · exact .inr h
  intro d x h
  exact Dp.rec (motive_1 := fun x d _ => Dp K H' x d) (motive_2 := fun xs ds _ => DpAll K H' xs ds) .non .bl .int .str (fun h1 _ ih => .lst (sl h1) ih) (fun h1 _ ih => .tup (st h1) ih) .nil (fun _ _ i1 i2 => .cons i1 i2) h
/-! ### how long a text is -/
mutual
def cst : PyData → Nat
  | .none => 4
  | .bool _ => 5
  | .int _ => 2000
  | .str x => (reprText x).length
  | .list xs => cstAll xs + 4
  | .tuple xs => cstAll xs + 4
  | .dict _ => 0
def cstAll : List PyData → Nat
  | [] => 0
  | x :: xs => cst x + 2 + cstAll xs
end
theorem listText_le (ts : List Str) : (listText ts).length ≤ piled ts + 4 := by
  cases ts with
  | nil => decide +kernel
  | cons t r =>
    have h := textFrom_length_pos r 1 (("[" : Str) ++ (if (0 : Nat) > 0 then ", " else "" : String) ++ t) (Nat.succ_pos 0)
    have e : ((("[" : Str) ++ (if (0 : Nat) > 0 then ", " else "" : String) ++ t)).length = 1 + t.length := by
      rw [strLen_append, strLen_append]; rfl
    have hX : (listText (t :: r)).length = (textFrom 0 "[" (t :: r)).length + 1 := by
      show (textFrom 0 "[" (t :: r) ++ "]").length = _
      rw [strLen_append]; rfl
    have hY : (textFrom 0 "[" (t :: r)).length = (textFrom 1 (("[" : Str) ++ (if (0 : Nat) > 0 then ", " else "" : String) ++ t) r).length := rfl
    rw [hX, hY, h, e, piled_cons]; omega
mutual
theorem shown_le : ∀ d : PyData, d.showable = true → d.hasDict = false → d.shown.length ≤ cst d
  | .none, _, _ => by simp only [PyData.shown, cst]; decide +kernel
  | .bool b, _, _ => by cases b <;> (simp only [PyData.shown, cst]; decide +kernel)
  | .int i, h, _ => by
    have hi : i.natAbs.log2 < 1920 := by simpa [PyData.showable] using h
    have e := int_text_length_le (k := 1920) (by decide) hi
    simp only [PyData.shown, cst]
    rw [PySem.ofString_length]; omega
  | .str x, _, _ => by simp only [PyData.shown, cst]; exact Nat.le_refl _
  | .list xs, h, h2 => by
    have ih := shownAll_le xs (by simpa [PyData.showable] using h) (by simpa [PyData.hasDict] using h2)
    have := listText_le (PyData.shownAll xs)
    simp only [PyData.shown, cst]; omega
  | .tuple xs, h, h2 => by
    have ih := shownAll_le xs (by simpa [PyData.showable] using h) (by simpa [PyData.hasDict] using h2)
    have := fmt_text (PyData.shownAll xs)
    simp only [PyData.shown, cst]; omega
  | .dict _, _, h => by simp [PyData.hasDict] at h
theorem shownAll_le : ∀ xs : List PyData, PyData.showableAll xs = true → PyData.hasDictAll xs = false → piled (PyData.shownAll xs) ≤ cstAll xs
  | [], _, _ => Nat.zero_le _
  | x :: xs, h, h2 => by
    have h' : x.showable = true ∧ PyData.showableAll xs = true := by simpa [PyData.showableAll] using h
    have h2' : x.hasDict = false ∧ PyData.hasDictAll xs = false := by simpa [PyData.hasDictAll] using h2
    have a := shown_le x h'.1 h2'.1
    have b := shownAll_le xs h'.2 h2'.2
    simp only [PyData.shownAll, piled_cons, cstAll]; omega
end
theorem fit_of {d : PyData} (h1 : d.showable = true) (h2 : d.hasDict = false) (h3 : d.depth ≤ 20) (h4 : cst d ≤ 1000000) : Fit d := ⟨h1, h2, h3, Nat.le_trans (shown_le d h1 h2) h4⟩
/-! ### // -/
section
variable {X : Cx}
theorem op_fdivZ : OpR X (binaryOp .FloorDiv) (rI (fun _ j => j ≠ 0 ∧ j.natAbs.log2 < 9000) fun i j => .int (i.fdiv j)) := opI fun i j _ _ _ _ _ hc q => floordiv_int hc.1 q (.inl (PyProof.noPylong_of_log2 hc.2))
end
/-! ### f(k = v, ..) -/
section
variable {X : Cx} {k : Nat} {f : Addr} {fd : FuncData} {ps ks : List Str} {sp : Sp} {E : L2.St → XK} {x : Str} {p pos : Pos} {kws : List Keyword} {tk : TA} {g : List Value → List Value → List Value} {gV : List V → List V → List V}
def tCallKG (sp : Sp) (gV : List V → List V → List V) (E : L2.St → XK) (tk : TA) : TE := fun σ H Q => tk σ H fun zs H2 => sp (gV [] zs) H2 Q (E σ)
theorem pe_callKG (F : FnG X.prog X.w X.K X.mg X.base k f fd ps sp) (hr : Room k X.A) (hgd : X.A.guards = some []) (hg : Gl X x) (hm : X.mg x = some (.ref f)) (hk : PySem.W.keepIn X.K (.ref f) = true) (hb : KBinds X.K fd ps ks g gV) (hx : ∀ σ, PassesAt (L2.CX X.prog X.w) X σ (E σ))
    (hkw : PK X kws tk) (hall : (backToKw pos (keywordEach kws X.env)).all (·.1.isSome) = true := by rfl) (hks : (backToKw pos (keywordEach kws X.env)).filterMap (·.1) = ks := by rfl)
    (hdb : (x == ("__debug__" : Str)) = false := by decide) (hpl : ((backTo pos (starEach [] X.env)).any (·.1) || (backToKw pos (keywordEach kws X.env)).any (·.1.isNone)) = false := by rfl) :
    PE X (.Call (.Name x p) [] kws pos) (tCallKG sp gV E tk) := by
  refine ⟨fun pins s σ H Q I h => ?_⟩
  refine wpAny_Call_Name_kw (ld_glob I hg hm ?_ hdb)
  refine PySem.W.callWith_KW0 (h₀ := X.base) I.ok.mod.kin hk hall ?_ hpl
  refine thn (hkw.run pos pins s σ H _ I h) fun ws s2 ⟨zs, H2, I2, rz, q2⟩ => ⟨I2.kIn, ?_⟩
  rw [hks]
  have r2 := hb.rel (vs := []) (us := []) .nil rz
  have hl : (g [] ws).length = ps.length := by rw [← r2.length]; exact F.len _ _ _ _ q2
  refine wpAny_call (codeAny_mono (F.run X.A X.stack s2 H2 ⟨[], ks.zip ws⟩ (g [] ws) (gV [] zs) Q (E σ) hr hgd I2.env0 (hb.to s2 [] ws I2.kIn hl) r2 q2) fun r s' hq => ?_)
  cases r with
  | error e => exact hx σ pins H2 s2 e s' I2 hq
  | ok fl =>
    cases fl with
    | ret u => exact I2.after hq
    | next => exact False.elim hq
    | brk => exact False.elim hq
    | cont => exact False.elim hq
end
end Rm
set_option Elab.async false
set_option linter.all false
set_option maxRecDepth 100000
set_option maxHeartbeats 4000000
/-! # The law is called where nothing is being shown -/
namespace Rm
open PySem PySem.Spec PyProof.Rows L2 RmX
section
variable {P : Program} {w : World} {K : PySem.W.Frag} {mg mb : Str → Option Value} {k : Nat} {fa a : Addr} {fd : FuncData} {x : Str} {sp : Sp} {t : Shared} {cells : List Value} {ns : List Int}
/-- how the law ends -/
abbrev Fin1 (t : Shared) : Result → Shared → Prop := fun r t' => r = .ok (.ret (.bool true)) ∧ OldK t.heap t'.heap ∧ t'.os = t.os ∧ AllBare t'.gens
/-- a view of the heap: the script alone may be tracked -/
structure View (P : Program) (w : World) (K : PySem.W.Frag) (t : Shared) (a : Addr) (xs : List V) (T : Hp) : Prop where
  only : Only T
  list : SqL K T a xs
  holds : HOk P w T t.heap
  at_a : ∀ b, T b ≠ none → b = a
  out : T a ≠ none → K.lookup a = none
theorem lawG_view {T : Hp} (kin : K.In t.heap) (gl : t.heap.Ns mainGlobals mg) (bl : t.heap.Ns builtinsNs mb) (bb : ∀ y : Str, y ≠ "__name__" → mb y = bootBuiltins y) (nol : t.heap.NoLimit) (gens : t.gens = #[])
    (obj : t.heap.get? a = some { cls := .type "list", data := .seq cells.toArray }) (rm : Room k callerA)
    (promise : ∀ base : Heap, K.In base → base.Ns mainGlobals mg → FnG P w K mg base k fa fd [x] sp) (bnd : ∀ (s : Shared) (u : Value), BindsTo s fd ⟨[u], []⟩ [(x, u)])
    (V1 : View P w K t a (ns.map V.int) T) (kept : sp [.ref a] T (fun v _ => v = .bl true) fun _ _ _ => False) :
    codeAny (model P w) callerA (.call (.ref fa) ⟨[.ref a], []⟩) (Fin1 t) t := by
  -- dicts are not tracked
  have untr : ∀ {b : Addr} {o : Obj} {es : Array DictEntry} {ep : Nat}, t.heap.get? b = some o → o.data = .dict es ep → T b = none := by
    intro b o es ep e d
    rcases hq : T b with _ | u
    · rfl
    · exfalso
      have eb := V1.at_a b (by rw [hq]; exact fun z => nomatch z)
      rw [eb, obj] at e
      cases e
      exact nomatch d
  have space : ∀ {b : Addr} {m : Str → Option Value}, t.heap.Ns b m → (hidT t.heap T).Ns b m := by
    rintro b m ⟨o, es, ep, e, d, r⟩
    exact ⟨o, es, ep, hidT_get e (untr e d), d, r⟩
  have kbase : K.In (hidT t.heap T) := by
    intro b o e
    refine hidT_get (kin b o e) ?_
    rcases hq : T b with _ | u
    · rfl
    · exfalso
      have eb := V1.at_a b (by rw [hq]; exact fun z => nomatch z)
      rw [eb, V1.out (by rw [← eb, hq]; exact fun z => nomatch z)] at e
      cases e
  have nolim : (hidT t.heap T).NoLimit := by
    obtain ⟨mc, l1, l2⟩ := nol
    exact ⟨mc, space l1, l2⟩
  have modu : Mod K mg (hidT t.heap T) := ⟨kbase, space gl, ⟨mb, space bl, bb⟩, nolim⟩
  have enter : Env0 P w K mg (hidT t.heap T) callerA [] t T :=
    ⟨rfl, modu, fun b o => of_hidT, Nat.le_of_eq (hidT_size _ _), trivial, (fun b z => nomatch z), V1.holds, .of_eq gens⟩
  have ran := (promise _ kbase (space gl)).run callerA [] t T ⟨[.ref a], []⟩ [.ref a] [.ref a] _ _ rm rfl enter (bnd t (.ref a)) (.cons rfl .nil) kept
  refine codeAny_mono ran ?_
  rintro (e | fl) t' h
  · obtain ⟨_, _, _, _, _, _, _, _, _, _, _, _, z⟩ := h
    exact z.elim
  · cases fl with
    | ret u =>
      obtain ⟨v, T', hos, hb, un, ok', rv, ev⟩ := h
      have ev : v = .bl true := ev
      rw [ev] at rv
      have eu : u = Value.bool true := rv
      rw [eu]
      refine ⟨rfl, OldK.of_keep ?_, hos, hb⟩
      intro b o e
      rcases hq : T b with _ | u
      · exact un.keep b o e hq (fun z => nomatch z) (fun z => nomatch z)
      · rcases V1.only b with z | ⟨ob, xs, z⟩
        · rw [hq] at z
          cases z
        · have e1 := (V1.holds b _ z).1
          have e2 := (ok' b _ (un.frzs b ob _ z)).1
          rw [e] at e1
          cases e1
          exact e2
    | next => exact h.elim
    | brk => exact h.elim
    | cont => exact h.elim
theorem lawG_call (kin : K.In t.heap) (gl : t.heap.Ns mainGlobals mg) (bl : t.heap.Ns builtinsNs mb) (bb : ∀ y : Str, y ≠ "__name__" → mb y = bootBuiltins y) (nol : t.heap.NoLimit) (gens : t.gens = #[])
    (obj : t.heap.get? a = some { cls := .type "list", data := .seq cells.toArray }) (whole : IntsAre cells ns) (len : ns.length ≤ sizeLine) (rm : Room k callerA)
    (promise : ∀ base : Heap, K.In base → base.Ns mainGlobals mg → FnG P w K mg base k fa fd [x] sp) (bnd : ∀ (s : Shared) (u : Value), BindsTo s fd ⟨[u], []⟩ [(x, u)])
    (kept : ∀ T : Hp, Only T → SqL K T a (ns.map V.int) → sp [.ref a] T (fun v _ => v = .bl true) fun _ _ _ => False) :
    codeAny (model P w) callerA (.call (.ref fa) ⟨[.ref a], []⟩) (Fin1 t) t := by
  have rel : Vals (ns.map V.int) cells := L2.vals_ints whole
  have cnt : cells.length = ns.length := whole.length
  rcases hl : K.lookup a with _ | o
  · -- the script is new: it is tracked, frozen
    let fz : HO := .frz { cls := .type "list", data := .seq cells.toArray } (.lst (ns.map V.int))
    have at1 : ∀ b, (if b = a then some fz else none) = none ∨ b = a := by
      intro b
      by_cases h : b = a
      · exact .inr h
      · exact .inl (if_neg h)
    have VW : View P w K t a (ns.map V.int) (fun b => if b = a then some fz else none) := by
      refine ⟨?_, .inl (.inr ⟨_, if_pos rfl⟩), ?_, ?_, fun _ => hl⟩
      · intro b
        by_cases h : b = a
        · exact .inr ⟨_, _, if_pos h⟩
        · exact .inl (if_neg h)
      · intro b u e
        rcases at1 b with z | z
        · rw [show (if b = a then some fz else none) = some u from e] at z
          cases z
        · subst z
          cases (if_pos rfl).symm.trans e
          exact ⟨obj, by rw [List.length_map]; exact len, cells, _, rel, obj⟩
      · intro b z
        rcases at1 b with h | h
        · exact absurd h z
        · exact h
    exact lawG_view kin gl bl bb nol gens obj rm promise bnd VW (kept _ VW.only VW.list)
  · -- the script is the module's own
    have e := kin a o hl
    rw [obj] at e
    cases e
    have VW : View P w K t a (ns.map V.int) (fun _ => none) := by
      refine ⟨fun _ => .inl rfl, .inr ⟨_, cells.toArray, _, hl, rfl, rfl, rfl, ?_, by simpa using rel⟩, (fun b u z => nomatch z), fun b z => absurd rfl z, fun z => absurd rfl z⟩
      rw [List.size_toArray, cnt]
      exact len
    exact lawG_view kin gl bl bb nol gens obj rm promise bnd VW (kept _ VW.only VW.list)
end
/-- the goal that the head leaves, from the law's promise -/
theorem walk_ofG {l : PySem.W.OpenLaw} {n k : Nat} {q : Program} {loose : List Str} {XP : (Str → Option Value) → Heap → Prop} {YP : World → Heap → Prop} {d : DefRec} {K : Params → PySem.W.Frag} {sp : PySem.W.Frag → Sp} {x : Str}
    (most : l.most = some n) (fits : n ≤ sizeLine) (nodef : d.params.defaults = []) (rm : Room k callerA) (own : ∀ (w : World) (h : Heap), YP w h → (K w.params).In h)
    (F : ∀ (w : World) (mg : Str → Option Value) (fa : Addr) (h : Heap), (K w.params).In h → h.Ns mainGlobals mg → mg d.name = some (.ref fa) →
      ∃ fd : FuncData, (∀ (s : Shared) (u : Value), BindsTo s fd ⟨[u], []⟩ [(x, u)]) ∧ ∀ base : Heap, (K w.params).In base → base.Ns mainGlobals mg → FnG l.prog w (K w.params) mg base k fa fd [x] (sp (K w.params)))
    (kept : ∀ (K : PySem.W.Frag) (T : Hp) (a : Addr) (ns : List Int), ns.length ≤ n → SqL K T a (ns.map V.int) → sp K [.ref a] T (fun v _ => v = .bl true) fun _ _ _ => False) :
    PySem.W.WalkO q loose XP YP l.row.toRowW d [] (fun f vs => PySem.call f vs) := by
  refine Att.attach_call most nodef ?_
  intro w s₀ t mg mb fa o pm cd doc a cells ns G Y ho hd hcd hmg hobj hints hlen hg
  obtain ⟨fd, bnd, promise⟩ := F w mg fa _ (own w _ Y) G.T.g hmg
  exact lawG_call (own w _ Y) G.T.g G.T.b G.T.builtins G.T.nolimit hg hobj hints (Nat.le_trans hlen fits) rm promise bnd fun T _ hS => kept _ T a ns hlen hS
end Rm
set_option Elab.async false
set_option linter.all false
set_option maxRecDepth 100000
set_option maxHeartbeats 4000000
/-! # An own exception that is made, not raised; isinstance of a kept one by a tuple; how often a flag stands in a list -/
namespace Rm
open PySem PySem.Spec PyProof.Rows L2 RmX
/-- C(e) as a value: the new exception, its dict with F -/
def tMkE (K : PySem.W.Frag) (C : Addr) (F : Str) (ta : TA) : TE := fun σ H Q => ta σ H fun vs H1 => ∃ v d, vs = [v] ∧ Dp K H1 v d ∧ Fit d ∧ ∀ a dx, H1 dx = none → H1 a = none → dx ≠ a → Q (.ref a) (upd (upd H1 dx (.xd [(F, v)])) a (exv a C dx))
section
variable {X : Cx} {C fI : Addr} {F : Str} {B newId initId : String} {bmB : List Value} {a : Expr} {ta : TA} {x : Str} {p pos : Pos} {k : Nat}
theorem pe_mkx (FB : BaseX B newId initId bmB) (T : ExT X.prog X.K X.mg C fI F B newId initId bmB) (N : FName F) (hr : Room k X.A) (hgd : X.A.guards = some []) (hex : X.ex = []) (hg : Gl X x) (gC : X.mg x = some (.ref C)) (hsu : X.mg "super" = none) (ha : PA X [a] ta)
    (hdb : (x == ("__debug__" : Str)) = false := by decide)
    (he : starEach (a :: []) X.env = (false, eval a X.env) :: starEach [] X.env := by rfl) (hpl : (backTo pos (starEach [] X.env)).any (·.1) = false := by rfl) :
    PE X (.Call (.Name x p) [a] [] pos) (tMkE X.K C F ta) := by
  refine ⟨fun pins s σ H Q I h => ?_⟩
  refine wpAny_Call_Name_kw (ld_glob I hg gC ?_ hdb)
  refine PySem.W.callWith_K (h₀ := X.base) I.ok.mod.kin T.kC (thn (ha.run pos pins s σ H _ I h) fun us s1 hh => ?_) he hpl
  obtain ⟨vs, H1, I1, r1, v, d, ev, hd, hf, q1⟩ := hh
  subst ev
  refine ⟨I1.kIn, ?_⟩
  cases r1 with
  | cons rv rn =>
    rename_i v' us'
    cases rn
    show wpAny _ _ (call (.ref C) [v']) _ _ _
    have hlim := I1.nolimit
    obtain ⟨as, rd⟩ := Dp.reads I1 d v v' hd rv
    have hun := hr.un
    have hdp := hr.dp
    obtain ⟨mb, hb1, hb2⟩ := I1.mod.blt
    obtain ⟨hp, g, dr, tk, os⟩ := s1
    refine wpAny_call (exc_made FB T N I1.kIn hlim (I1.mod.glob.keeps I1.bk) hsu (hb1.keeps I1.bk) ((hb2 _ (by decide)).trans (by decide +kernel)) (by omega) (fun D hD hDu => shown_of (hD.trans hgd) (by omega) rd hf) fun h' tk' e d M => ?_)
    show EP X pins σ Q (.ref e) ⟨h', g, dr, tk', os⟩
    obtain ⟨t1, hoe⟩ := M.obj
    have hns := M.ns
    have ob : ObjOk X.prog X.w (upd H1 d (.xd [(F, v)])) h' d (.xd [(F, v)]) := ⟨_, hns, fun f => relO_one rv f⟩
    have J : Inv X pins σ (upd H1 d (.xd [(F, v)])) ⟨h', g, dr, tk', os⟩ := I1.laid (t' := tk') M.keep M.dbig ob
    have ne : H1 e = none := I1.hok.fresh M.new
    have nd : H1 d = none := I1.hok.fresh M.dbig
    have old : ∀ b o, hp.get? b = some o → b ≠ e := fun b o q => Nat.ne_of_lt (Nat.lt_of_lt_of_le (Heap.lt_size q) M.new)
    have W : Inv X pins σ (upd (upd H1 d (.xd [(F, v)])) e (exv e C d)) ⟨h', g, dr, tk', os⟩ := by
      refine track J ?_ ?_ ?_ ?_ ?_ (exv_ok hoe rfl rfl rfl)
      · rw [upd_ne (Ne.symm M.dne)]
        exact ne
      · obtain ⟨m, ⟨oL, es, ep, e1, _⟩, _⟩ := I1.loc
        exact (old _ _ e1).symm
      · intro y c hy
        obtain ⟨v, o, ho, _⟩ := I1.cell y c hy
        exact old _ _ ho
      · intro q hq
        exact old _ _ (I1.pin q hq).1
      · cases e0 : X.s_0.heap.get? e with
        | none => rfl
        | some o =>
          obtain ⟨o', q⟩ := I1.base.there e o e0 (by rw [hex]; exact fun z => nomatch z)
          exact absurd rfl (old _ _ q)
    exact ⟨.ref e, _, W, rfl, q1 e d nd ne M.dne⟩
end
/-- isinstance(e, (c1, c2, ..)), e a kept exception -/
def rIsXT (P : Program) (K : PySem.W.Frag) (mg : Str → Option Value) : List V → Hp → VK → Prop := fun xs H Q => ∃ (a C dx fI : Addr) (F : Str) (B newId initId : String) (bmB : List Value) (tp : Addr) (cs : List V) (us : List Value) (b : Bool), xs = [.ref a, .ref tp] ∧ ExT P K mg C fI F B newId initId bmB ∧ H a = some (exv a C dx) ∧ (∃ fs, H dx = some (.xd fs)) ∧ H tp = some (.tup cs) ∧ Paired ClsV cs us ∧ PySem.W.kitAny K (.ref C) us = some b ∧ Q (.bl b) H
theorem call_isXT {X : Cx} : CallR X (.builtin "isinstance") (rIsXT X.prog X.K X.mg) := by
  intro pins s σ H xs us Q I r h
  obtain ⟨a, C, dx, fI, F, B, newId, initId, bmB, tp, cs, ws, b, rfl, T, ea, ⟨fs, ed⟩, hT, k, e, q⟩ := h
  obtain ⟨u1, u2, rfl, r1, r2⟩ := vals2 r
  cases (show u1 = Value.ref a from r1)
  cases (show u2 = Value.ref tp from r2)
  obtain ⟨oe, vs, h1, h2, h3, h4⟩ := exv_at I.hok ea
  obtain ⟨mA, hns, _⟩ := (show ObjOk X.prog X.w H s.heap dx (.xd fs) from I.hok dx _ ed)
  obtain ⟨od, ho, _⟩ := lookIn_ns hns
  have J : PySem.W.InstAt s.heap a oe C (some od) := ⟨h1, h2, by unfold PySem.W.notCls; rw [h4] <;> rfl, by rw [h3]; exact ho⟩
  obtain ⟨cd, hcd, _⟩ := PySem.W.any_some T.hdC
  obtain ⟨_, its, rv, o, h1', h2', n, h3'⟩ := (show ObjOk X.prog X.w H s.heap tp (.tup cs) from I.hok tp _ hT)
  have e3 := ClsV.all k rv
  subst e3
  obtain ⟨oc, od', dt, sl⟩ := o
  simp only at h2' h3'
  subst h2' h3'
  exact PySem.W.kia_tup (PySem.W.kitx_exc (by rw [hcd]; rfl) T.ga T.gg T.exC T.ca T.cn T.ct T.cm) I.kIn J h1' e (fun z => nomatch z) fun tk => ⟨.bl b, H, I.tok tk, rfl, q⟩
end Rm
set_option Elab.async false
set_option linter.all false
set_option maxRecDepth 100000
set_option maxHeartbeats 4000000
/-! # An own exception whose one argument is passed by its name -/
namespace RmX
open PySem PySem.W PySem.Calls PyProof.Rows PySem.HandSPX PySem.Spec
section
variable {M : Model} {A : Around} {E : Value → Shared → Prop} {hp : Heap} {gs : Array GenState} {dw : Drawn} {tk : Nat} {os : OsState}
variable {nm qn : Str} {C N : Addr} {bs bm bmB : List Value} {hdct : Bool} {sn : List Str} {sub : List Value} {ab : Bool} {col : Option Bool} {dd : Option Addr} {k0 k1 k2 k3 k5 : Option Value} {B newId initId : String}
theorem kw_check_new (FB : ExcBaseFacts B newId initId bmB) (like : ∀ X : String, bm.contains (.type X) = bmB.contains (.type X)) {kw : List (Str × Value)} {Q : Unit → Shared → Prop}
    (hC : hp.get? C = some (excClassObj nm qn C N bs bm hdct sn sub ab col dd k0 k1 k2 k3 k5 newId)) (done : Q () ⟨hp, gs, dw, tk, os⟩) : wpAny M A (checkBuiltinCall newId ⟨[.ref C], kw⟩) Q E ⟨hp, gs, dw, tk, os⟩ := by
  have inB : (Value.ref C :: bm).contains (.type B) = true := by rw [List.contains_cons, like, FB.hasB, Bool.or_true]
  have st := FB.noStar
  simp only [checkBuiltinCall, FB.newKind, FB.newSplit, FB.newRow]
  repeat (first | refine wpAny_loadPart_at hC ?_ | (refine wpAny_isSubtype_exc hC ?_; rw [inB]) | refine wpAny_staticBase_exc hC ?_ | refine wpAny_madeBy_exc hC ?_ | simp only [bne_self_eq_false, Bool.false_eq_true, if_false] | wp_step)
  exact done
end
section
variable {prog : Program} {w : World} {A : Around} {E : Value → Shared → Prop} {R : Result → Shared → Prop} {hp : Heap} {gs : Array GenState} {dw : Drawn} {tk : Nat} {os : OsState}
variable {nm qn : Str} {C N : Addr} {bs bm bmB : List Value} {hdct : Bool} {sn : List Str} {sub : List Value} {ab : Bool} {col : Option Bool} {dd : Option Addr} {k0 k1 k2 k3 k5 : Option Value} {B newId initId : String}
theorem kw_new (FB : ExcBaseFacts B newId initId bmB) (like : ∀ X : String, bm.contains (.type X) = bmB.contains (.type X)) {kw : List (Str × Value)}
    (hC : hp.get? C = some (excClassObj nm qn C N bs bm hdct sn sub ab col dd k0 k1 k2 k3 k5 newId))
    (done : R (.ok (.ret (.ref (hp.objs.size + 1)))) ⟨(hp.push (W.kdv_tup [])).push (excO C hp.objs.size), gs, dw, tk, os⟩) :
    codeAny (model prog w) A (.builtin newId ⟨[.ref C], kw⟩) R ⟨hp, gs, dw, tk, os⟩ := by
  have ends := FB.ends
  have inB : (Value.ref C :: bm).contains (.type B) = true := by rw [List.contains_cons, like, FB.hasB, Bool.or_true]
  have inA : (Value.ref C :: bm).contains (.type "AttributeError") = false := by rw [List.contains_cons, like, FB.noAttr]; rfl
  have inN : (Value.ref C :: bm).contains (.type "NameError") = false := by rw [List.contains_cons, like, FB.noName]; rfl
  refine codeAny_builtinAt FB.entry ?_
  unfold Builtin.«BaseException.__new__»
  refine PySem.wpAt_bind ?_
  show PySem.wpAt _ _ _ (stack >>= _) _ _ _
  refine PySem.wpAt_bind (PySem.wpAt_stack fun pp below => PySem.wpAt_of_wpAny ?_)
  wp_walk
  refine PySem.wpAt_of_wpAny ?_
  rw [FB.owner]
  repeat (first | with_reducible refine wpAny_madeHere_exc FB.canon hC ?_ | with_reducible refine wpAny_loadPart_at hC ?_ | (with_reducible refine wpAny_isSubtype_exc hC ?_; first | rw [inB] | rw [inA] | rw [inN]) | wp_step)
  show R _ _
  rw [Heap.size_push]
  exact done
theorem kw_type_call (FB : ExcBaseFacts B newId initId bmB) (like : ∀ X : String, bm.contains (.type X) = bmB.contains (.type X)) {kw : List (Str × Value)} {fI : Addr} {Q : Fin → Shared → Prop}
    (hC : hp.get? C = some (excClassObj nm qn C N bs bm hdct sn sub ab col dd k0 k1 k2 k3 k5 newId))
    (ini : W.Looks (model prog w) hp (typeLookup (.ref C) "__init__") (some (.ref fI))) (bnd : ∀ self, W.Looks (model prog w) hp (bindSpecial (.ref fI) self) (.ref fI, [self]))
    (done : codeAny (model prog w) A (.call (.ref fI) ⟨[.ref (hp.objs.size + 1)], kw⟩)
      (fun r s' => match r with | .ok (.ret v) => v = .none ∧ Q (.done (.ret (.ref (hp.objs.size + 1)))) s' | .ok _ => False | .error e => E e s')
      ⟨(hp.push (W.kdv_tup [])).push (excO C hp.objs.size), gs, dw, tk, os⟩) :
    wpAny (model prog w) A (Builtin.«type.__call__» ⟨[.ref C], kw⟩) Q E ⟨hp, gs, dw, tk, os⟩ := by
  repeat (first | with_reducible refine wpAny_loadPart_at hC ?_ | with_reducible refine wpAny_madeBy_exc hC ?_ | wp_step)
  refine codeAny_call_builtin_code (Code.quiet_builtin _ FB.quiet) (kw_check_new FB like hC ?_)
  refine kw_new FB like hC ?_
  show wpAny _ _ _ _ _ _
  have up : ∀ b o, hp.get? b = some o → ((hp.push (W.kdv_tup [])).push (excO C hp.objs.size)).get? b = some o := fun b o e => Heap.get?_push_of_some _ (Heap.get?_push_of_some _ e)
  have hC₁ := up _ _ hC
  have got : ((hp.push (W.kdv_tup [])).push (excO C hp.objs.size)).get? (hp.objs.size + 1) = some (excO C hp.objs.size) := by heap_get
  have own : (Value.ref C :: bm).contains (.ref C) = true := by simp
  have i1 := ini.keeps up
  have b1 := (bnd (.ref (hp.objs.size + 1))).keeps up
  unfold isInstance
  repeat (first | with_reducible refine wpAny_loadPart_at got ?_ | (with_reducible refine wpAny_isSubtype_exc hC₁ ?_; rw [own]) | wp_step)
  show wpAny _ _ (typeLookup (.ref C) _) _ _ _
  refine i1.at ?_
  refine wpAny_holding (wpAny_bind (b1.at ?_))
  refine wpAny_bind (wpAny_call (codeAny_mono done fun r s' z => ?_))
  rcases r with e | (v | _ | _ | _) <;> first | exact z | exact z.elim | skip
  obtain ⟨rfl, z⟩ := z
  first
    | exact wpAny_pure (wpAny_pure z)
    | (wp_walk; exact z)
theorem kw_call (FB : ExcBaseFacts B newId initId bmB) (like : ∀ X : String, bm.contains (.type X) = bmB.contains (.type X)) {kw : List (Str × Value)} {fI : Addr}
    (hC : hp.get? C = some (excClassObj nm qn C N bs bm hdct sn sub ab col dd k0 k1 k2 k3 k5 newId))
    (ini : W.Looks (model prog w) hp (typeLookup (.ref C) "__init__") (some (.ref fI))) (bnd : ∀ self, W.Looks (model prog w) hp (bindSpecial (.ref fI) self) (.ref fI, [self]))
    (done : codeAny (model prog w) (A.under (.builtin "type.__call__" ⟨[.ref C], kw⟩)) (.call (.ref fI) ⟨[.ref (hp.objs.size + 1)], kw⟩) (W.InitBack (hp.objs.size + 1) R)
      ⟨(hp.push (W.kdv_tup [])).push (excO C hp.objs.size), gs, dw, tk, os⟩) :
    codeAny (model prog w) A (.call (.ref C) ⟨[.ref C].drop 1, kw⟩) R ⟨hp, gs, dw, tk, os⟩ := by
  have look := tc_lookup
  have bindC := tc_bind (.ref C)
  have isTy : (⟨hp, gs, dw, tk, os⟩ : Shared).TypeIs (.ref C) "type" := ⟨_, hC, rfl⟩
  refine codeAny_of_tree ?_
  show wpAny _ _ (callAny (.ref C) ⟨[], kw⟩) _ _ _
  repeat (any_goals (first | assumption | with_reducible refine wpAny_loadPart_at hC ?_ | wp_step))
  refine ⟨rfl, ?_⟩
  refine codeAny_call_builtin_at (Code.quiet_builtin _ (by decide +kernel)) entry_typeCall (wpAny_check_type_call_sub hC (kw_type_call FB like hC ini bnd ?_))
  refine codeAny_mono done fun r s' z => ?_
  rcases r with e | (v | _ | _ | _) <;> exact z
end
section
variable {prog : Program} {w : World} {A : Around} {E : Value → Shared → Prop} {R : Result → Shared → Prop} {s : Shared} {K : Frag} {mg mb : Str → Option Value} {C fI : Addr} {F : Str} {B newId initId : String} {bmB : List Value}
theorem init_runK (FB : BaseX B newId initId bmB) (T : ExT prog K mg C fI F B newId initId bmB) (N : FName F) {x t0 : Addr} {v : Value} (X : K.In s.heap) (hlim : s.heap.NoLimit) (hg : s.heap.Ns mainGlobals mg) (hmg : mg "super" = none) (hb : s.heap.Ns builtinsNs mb) (hmb : mb "super" = some (.type "super"))
    (hx : s.heap.get? x = some (excO C t0)) (hnx : K.lookup x = none) (hroom : A.depth < recursionLimit) (hsh : Shown prog w A s.heap v)
    (hq : ∀ h' tk dx t1, InitEnd s.heap h' x C dx t1 F v → R (.ok (.ret .none)) { s with heap := h', toks := tk }) :
    codeAny (model prog w) A (.call (.ref fI) ⟨[.ref x], [(F, v)]⟩) R s := by
  obtain ⟨oc, od, doc, pm, an, cda, cc, ct, osl, p1, p2, q1, q2, q3, q4, q5, q6, q7, q8, q9, r1, r2, r3, r4, qual, tx, hpos, ho, hcd, htx, ⟨cl, cld, csl, hcc⟩, ccl, cdd, vs, ccs, file, tf, hcode, hvs, hfile⟩ := T.fn
  obtain ⟨nm, q, N', bs, bm, sn, sub, ab, col, dd, k0, k1, k2, k3, k5, hC, hbm⟩ := T.cls
  have hcl : clsIn K C = some { name := nm, bases := bs, mro := .ref C :: bm, ns := N', qualname := q, hasDict := true, slotNames := sn, subclasses := sub, abstract := ab, collection := col, hasDel := false } := by unfold clsIn; rw [hC] <;> rfl
  refine ks_codeAny_call_defAt (binds := [("self", .ref x), (F, v)]) hroom (X _ _ ho) rfl hlim (codeRec_of X hcd) rfl (BindsTo.of_eq (N.bk ..)) (by intro y hy; simp only [iS, List.mem_cons, List.mem_nil_iff, or_false] at hy; rcases hy with rfl | rfl | rfl | rfl <;> simp) (fun y hy => ?_) (fun h₁ hn hk => ?_) rfl rfl rfl
  · simp only [List.mem_cons, List.mem_nil_iff, or_false] at hy
    rcases hy with rfl | rfl
    · rfl
    · exact N.l1
  · have X₁ : K.In h₁ := X.keeps hk
    have hx₁ := hk _ _ hx
    have mself : (fun y => [(("self" : Str), Value.ref x), (F, v)].reverse.lookup y) ("self" : Str) = some (.ref x) := by
      show List.lookup ("self" : Str) [(F, v), (("self" : Str), Value.ref x)] = some (.ref x)
      rw [List.lookup_cons, N.l3]
      rfl
    have mF : (fun y => [(("self" : Str), Value.ref x), (F, v)].reverse.lookup y) F = some v := by
      show List.lookup F [(F, v), (("self" : Str), Value.ref x)] = some v
      rw [List.lookup_cons, beq_self_eq_true]
    have hD1 : h₁.get? C = some (excClassObj nm q C N' bs bm true sn sub ab col dd k0 k1 k2 k3 k5 newId) := X₁ _ _ hC
    refine ks_wpAt_execs_cons (ks_wpAt_Expr_any (ks_wpAt_MethodCall ?_ (eval_mcall hpos (by rfl))) rfl rfl)
    refine ks_wpAt_super_base (f := fI) (cc := cda) N.l6 N.l5 rfl rfl (X₁ _ _ ho) rfl rfl rfl (X₁ _ _ hcode) rfl hvs hfile T.top ?_
    refine ks_loadName_global rfl N.l6 (loadGlobal_builtin (mg := mg) (mb := mb) (hg.keeps hk) hmg (hb.keeps hk) hmb ⟨rfl, ?_⟩)
    refine wpAny_loadName_free rfl N.l5 rfl ⟨_, X₁ _ _ hcc, rfl⟩ ?_
    refine wpAny_loadName_local rfl N.l7 hn mself ?_
    refine ks_wpAny_isType_cls hD1 rfl ⟨rfl, ?_⟩
    refine ks_wpAny_call_super hD1 rfl hx₁ rfl (fun c z => by cases z) (looks_mroIn X₁ T.self) (fun h₂ e₂ k₂ => ?_)
    have X₂ : K.In h₂ := X₁.keeps k₂
    have I₂ : InstAt h₂ x (excO C t0) C none := ⟨k₂ _ _ hx₁, rfl, rfl, trivial⟩
    have hxC : x ≠ C := fun z => by
      rw [z, hD1] at hx₁
      cases hx₁
    have hsup := T.sup
    unfold ks_superIn at hsup
    rw [hcl] at hsup
    refine kxs_getMethod FB.kx e₂ (looks_opaque X₂ T.opq) (l₀ := .ref C :: bm) (fun A Q E s k q => wpAny_bind ((looks_clsIn X₂ hcl) A _ E s k (wpAny_pure q))) rfl X₂ hsup (I₂.type.andThen (looks_subIn X₂ T.hB)) hxC rfl ?_
    show wpAny _ _ (callWith q8 (.ref h₂.objs.size) [] _ []) _ _ _
    refine kxs_callWith (i := initId) (x := x) rfl ?_
    refine evalArgs_plain (spliced_cons ?_)
    have k₃ : ∀ b o, s.heap.get? b = some o → (h₂.push (kxs_mw initId x)).get? b = some o := fun b o e => Heap.get?_push_of_some _ (k₂ _ _ (hk _ _ e))
    have hmw : (h₂.push (kxs_mw initId x)).get? h₂.objs.size = some (kxs_mw initId x) := Heap.get?_push_at rfl rfl
    refine wpAny_JoinedStr (pos := q7) ?_
    refine Joins_cons (Constant_str ⟨tx, _, rfl, ?_, ?_⟩)
    · show (Str.empty ++ tx).length ≤ sizeLine
      rw [strLen_append, sizeLine_eq]
      have : Str.empty.length = 0 := rfl
      omega
    refine Joins_cons (wpAny_FormattedValue_repr (wpAny_Name (wpAny_loadName_local rfl N.l1 (hn.keeps fun b o e => Heap.get?_push_of_some _ (k₂ _ _ e)) mF ?_) N.l2))
    refine hsh _ _ _ _ (by rfl) (by show A.units + 3 ≤ _; omega) k₃ fun y u h₄ tk₄ hy k₄ => ?_
    have hyz : y.length ≤ sizeLine := Nat.le_trans hy (by rw [sizeLine_eq]; decide)
    refine PyProof.Rows.formatField_str (fun u' tk' => ⟨y, u', rfl, ?_, ?_⟩) hyz
    · rw [strLen_append, strLen_append, sizeLine_eq]
      have : Str.empty.length = 0 := rfl
      omega
    refine Joins_nil ⟨?_, spliced_nil ⟨?_, ?_⟩⟩
    · rw [strLen_append, strLen_append, sizeLine_eq]
      have : Str.empty.length = 0 := rfl
      omega
    · exact k₄ _ _ hmw
    have hx₄ : h₄.get? x = some (excO C t0) := k₄ _ _ (k₃ _ _ hx)
    have hC₄ := k₄ _ _ (k₃ _ _ (X _ _ hC))
    refine call_mw FB hC₄ hx₄ (k₄ _ _ hmw) (by show 1 ≤ sizeLine; rw [sizeLine_eq]; decide) fun h₅ t₅ k₅ hx₅ => ?_
    -- self.F = F
    have k₀₄ : ∀ b o, s.heap.get? b = some o → h₄.get? b = some o := fun b o e => k₄ _ _ (k₃ _ _ e)
    have X₅ : K.In h₅ := fun b o e => k₅ b o (fun z => by rw [z, hnx] at e; cases e) (k₀₄ _ _ (X _ _ e))
    have hn₅ : h₅.Ns s.heap.objs.size (fun y => [(("self" : Str), Value.ref x), (F, v)].reverse.lookup y) := by
      obtain ⟨oL, es, ep, e1, e2⟩ := hn
      have hxL : s.heap.objs.size ≠ x := Nat.ne_of_gt (Heap.lt_size hx)
      exact ⟨oL, es, ep, k₅ _ _ hxL (k₄ _ _ (Heap.get?_push_of_some _ (k₂ _ _ e1))), e2⟩
    refine wpAt_of_wpAny (wpAny_execs_cons (plainObj_wpAny_Assign_Attribute ?_))
    refine wpAny_Name (wpAny_loadName_local rfl N.l1 hn₅ mF ?_) N.l2
    refine wpAny_Name (wpAny_loadName_local rfl N.l7 hn₅ mself ?_) (by decide)
    refine set_plain X₅ (ox := excO C t₅) (od := none) ⟨hx₅, rfl, rfl, trivial⟩ T.sa ?_
    refine exc_osaB FB X₅ hx₅ hcl hbm rfl T.noF (fun h₆ tk₆ dx k₆ dn dne hx₆ hn₆ => ?_)
    refine wpAny_execs_nil ?_
    refine hq h₆ tk₆ dx t₅ ⟨fun b o hb e => k₆ b o hb (k₅ b o hb (k₀₄ b o e)), hx₆, ?_, dne, hn₆⟩
    exact Nat.le_of_lt (Nat.lt_of_lt_of_le hn₅.lt dn)
theorem exc_madeK (FB : BaseX B newId initId bmB) (T : ExT prog K mg C fI F B newId initId bmB) (N : FName F) {v : Value} (X : K.In s.heap) (hlim : s.heap.NoLimit) (hg : s.heap.Ns mainGlobals mg) (hmg : mg "super" = none) (hb : s.heap.Ns builtinsNs mb) (hmb : mb "super" = some (.type "super"))
    (hroom : A.depth + 1 < recursionLimit) (hsh : ∀ B : Around, B.guards = A.guards → B.units ≤ A.units + 8 → Shown prog w B s.heap v)
    (hq : ∀ h' tk e d, OwnMade s.heap h' e C d F v → R (.ok (.ret (.ref e))) { s with heap := h', toks := tk }) :
    codeAny (model prog w) A (.call (.ref C) ⟨[], [(F, v)]⟩) R s := by
  obtain ⟨nm, q, N', bs, bm, sn, sub, ab, col, dd, k0, k1, k2, k3, k5, hC, hbm⟩ := T.cls
  obtain ⟨hp, g, dr, tk, os⟩ := s
  have k : ∀ b o, hp.get? b = some o → ((hp.push (kdv_tup [])).push (excO C hp.objs.size)).get? b = some o := fun b o e => Heap.get?_push_of_some _ (Heap.get?_push_of_some _ e)
  have hget : ((hp.push (kdv_tup [])).push (excO C hp.objs.size)).get? (hp.objs.size + 1) = some (excO C hp.objs.size) := by heap_get
  have hnx : K.lookup (hp.objs.size + 1) = none := by
    cases e : K.lookup (hp.objs.size + 1) with
    | none => rfl
    | some o =>
      have z : hp.get? (hp.objs.size + 1) = some o := X _ _ e
      exact absurd (Nat.lt_of_succ_lt (Heap.lt_size z)) (Nat.lt_irrefl _)
  refine kw_call FB.exc (fun X => excTail_contains X bm hbm) (X _ _ hC) (looks_findIn X T.iC) (fun self => bind_fn X self T.tI) ?_
  refine init_runK (s := ⟨(hp.push (kdv_tup [])).push (excO C hp.objs.size), g, dr, tk, os⟩) FB T N (X.keeps k) (hlim.keeps k) (hg.keeps k) hmg (hb.keeps k) hmb hget hnx ?_ ?_ fun h' tk' dx t1 hE => ?_
  · show A.depth + 1 < recursionLimit
    exact hroom
  · intro D E' Q' s' hdg hdu hk hQ
    refine hsh _ ?_ ?_ D E' Q' s' hdg hdu (fun b o e => hk _ _ (k _ _ e)) hQ
    · rfl
    · rw [L2.make_units]; omega
  · obtain ⟨k', hx, dn, dne, hns⟩ := hE
    have old : ∀ b o, hp.get? b = some o → h'.get? b = some o := fun b o e => k' b o (Nat.ne_of_lt (Nat.lt_succ_of_lt (Heap.lt_size e))) (k b o e)
    have z : hp.objs.size + 1 + 1 ≤ dx := by
      first
        | (simpa only [Heap.size_push] using dn)
        | exact dn
        | (have q := dn; rw [Heap.size_push, Heap.size_push] at q; exact q)
    exact ⟨rfl, hq h' tk' (hp.objs.size + 1) dx ⟨old, Nat.le_succ _, ⟨t1, hx⟩, Nat.le_trans (Nat.le_trans (Nat.le_succ _) (Nat.le_succ _)) z, dne, hns⟩⟩
end
end RmX
namespace Rm
open PySem PySem.Spec PyProof.Rows L2 RmX
section
variable {X : Cx} {C fI : Addr} {F : Str} {B newId initId : String} {bmB : List Value} {e : Expr} {te : TE} {x : Str} {p pos kpos : Pos} {k : Nat}
theorem pe_mkxK (FB : BaseX B newId initId bmB) (T : ExT X.prog X.K X.mg C fI F B newId initId bmB) (N : FName F) (hr : Room k X.A) (hgd : X.A.guards = some []) (hex : X.ex = []) (hg : Gl X x) (gC : X.mg x = some (.ref C)) (hsu : X.mg "super" = none) (ha : PK X [⟨some F, e, kpos⟩] (tCons te tNil))
    (hall : (backToKw pos (keywordEach [⟨some F, e, kpos⟩] X.env)).all (·.1.isSome) = true := by rfl) (hks : (backToKw pos (keywordEach [⟨some F, e, kpos⟩] X.env)).filterMap (·.1) = [F] := by rfl)
    (hdb : (x == ("__debug__" : Str)) = false := by decide) (hpl : ((backTo pos (starEach [] X.env)).any (·.1) || (backToKw pos (keywordEach [⟨some F, e, kpos⟩] X.env)).any (·.1.isNone)) = false := by rfl) :
    PE X (.Call (.Name x p) [] [⟨some F, e, kpos⟩] pos) (tMkE X.K C F (tCons te tNil)) := by
  refine ⟨fun pins s σ H Q I h => ?_⟩
  refine wpAny_Call_Name_kw (ld_glob I hg gC ?_ hdb)
  refine PySem.W.callWith_KW0 (h₀ := X.base) I.ok.mod.kin T.kC hall ?_ hpl
  refine thn (ha.run pos pins s σ H _ I h) fun ws s1 hh => ?_
  obtain ⟨vs, H1, I1, r1, v, d, ev, hd, hf, q1⟩ := hh
  subst ev
  refine ⟨I1.kIn, ?_⟩
  rw [hks]
  cases r1 with
  | cons rv rn =>
    rename_i v' us'
    cases rn
    have hlim := I1.nolimit
    obtain ⟨as, rd⟩ := Dp.reads I1 d v v' hd rv
    have hun := hr.un
    have hdp := hr.dp
    obtain ⟨mb, hb1, hb2⟩ := I1.mod.blt
    obtain ⟨hp, g, dr, tk, os⟩ := s1
    refine wpAny_call (exc_madeK FB T N I1.kIn hlim (I1.mod.glob.keeps I1.bk) hsu (hb1.keeps I1.bk) ((hb2 _ (by decide)).trans (by decide +kernel)) (by omega) (fun D hD hDu => shown_of (hD.trans hgd) (by omega) rd hf) fun h' tk' e d M => ?_)
    show EP X pins σ Q (.ref e) ⟨h', g, dr, tk', os⟩
    obtain ⟨t1, hoe⟩ := M.obj
    have hns := M.ns
    have ob : ObjOk X.prog X.w (upd H1 d (.xd [(F, v)])) h' d (.xd [(F, v)]) := ⟨_, hns, fun f => relO_one rv f⟩
    have J : Inv X pins σ (upd H1 d (.xd [(F, v)])) ⟨h', g, dr, tk', os⟩ := I1.laid (t' := tk') M.keep M.dbig ob
    have ne : H1 e = none := I1.hok.fresh M.new
    have nd : H1 d = none := I1.hok.fresh M.dbig
    have old : ∀ b o, hp.get? b = some o → b ≠ e := fun b o q => Nat.ne_of_lt (Nat.lt_of_lt_of_le (Heap.lt_size q) M.new)
    have W : Inv X pins σ (upd (upd H1 d (.xd [(F, v)])) e (exv e C d)) ⟨h', g, dr, tk', os⟩ := by
      refine track J ?_ ?_ ?_ ?_ ?_ (exv_ok hoe rfl rfl rfl)
      · rw [upd_ne (Ne.symm M.dne)]
        exact ne
      · obtain ⟨m, ⟨oL, es, ep, e1, _⟩, _⟩ := I1.loc
        exact (old _ _ e1).symm
      · intro y c hy
        obtain ⟨v, o, ho, _⟩ := I1.cell y c hy
        exact old _ _ ho
      · intro q hq
        exact old _ _ (I1.pin q hq).1
      · cases e0 : X.s_0.heap.get? e with
        | none => rfl
        | some o =>
          obtain ⟨o', q⟩ := I1.base.there e o e0 (by rw [hex]; exact fun z => nomatch z)
          exact absurd rfl (old _ _ q)
    exact ⟨.ref e, _, W, rfl, q1 e d nd ne M.dne⟩
end
end Rm
set_option Elab.async false
set_option linter.all false
set_option maxRecDepth 100000
set_option maxHeartbeats 4000000
namespace Rm
open PySem PySem.Spec PyProof.Rows L2 RmX
/-! ### how often a flag stands in a list of flags -/
def flagIs (k : Bool) : Value → Bool
  | .bool b => b == k
  | _ => false
theorem flags_of : ∀ {bs : List Bool} {us : List Value}, Vals (bs.map V.bl) us → us = bs.map Value.bool
  | [], _, .nil => rfl
  | b :: bs, _, .cons r t => by
    have ih := flags_of (bs := bs) t
    cases r
    rw [ih]
    rfl
theorem flags_count (k : Bool) : ∀ bs : List Bool, (bs.map Value.bool).countP (flagIs k) = bs.count k
  | [] => rfl
  | b :: bs => by
    rw [List.map_cons, List.countP_cons, List.count_cons, flags_count k bs]
    rfl
def rCntB (K : PySem.W.Frag) : V → List V → Hp → VK → Prop := fun x xs H Q => ∃ (p : Addr) (bs : List Bool) (k : Bool), x = .ref p ∧ xs = [.bl k] ∧ SqL K H p (bs.map V.bl) ∧ Q (.int (bs.count k : Nat)) H
theorem mt_bcount {X : Cx} : MtR X "list.count" (rCntB X.K) := by
  intro pins s σ H x xs v us Q I rx rxs h
  obtain ⟨p, bs, k, rfl, rfl, hs, q⟩ := h
  cases rx
  obtain ⟨u, rfl, ru⟩ := rxs.one
  cases ru
  obtain ⟨its, rv, ⟨⟨cls, dd, data, sl⟩, n, ho, hc, hdn, hd⟩, hlen⟩ := I.list hs
  simp only at hc hd
  subst hc hd
  have e := flags_of rv
  subst e
  refine call_meets PySem.F.slot_list_count ⟨_, ho, rfl⟩ PySem.F.entry_list_count (PySem.F.args_list_count_2 _ _)
    (SeqAt.list_countAt p (bs.map Value.bool).toArray n dd sl (.bool k) (flagIs k)) ⟨ho, fun y hy => ?_, ?_⟩
  · have hy' : y ∈ bs.map Value.bool := by simpa using hy
    obtain ⟨b, _, rfl⟩ := List.mem_map.mp hy'
    exact SeqAt.EqAt.bool_bool b k
  · refine ⟨.int (bs.count k : Nat), H, I.tok _, ⟨s.toks, ?_⟩, q⟩
    show Value.int (((bs.map Value.bool).toArray.toList.countP (flagIs k) : Nat) : Int) s.toks = _
    rw [show (bs.map Value.bool).toArray.toList = bs.map Value.bool from rfl, flags_count]
end Rm
/-! # Fractions in lowest terms, in plain Lean -/
namespace Mth
/-- the sign and the common divisor by which above and below are divided -/
def shr (a b : Int) : Int := if b < 0 then -((Nat.gcd a.natAbs b.natAbs : Nat) : Int) else ((Nat.gcd a.natAbs b.natAbs : Nat) : Int)
def nrm (a b : Int) : Int × Int := (a.fdiv (shr a b), b.fdiv (shr a b))
def isNum (n d : Int) : Prop := 1 ≤ d ∧ Nat.gcd n.natAbs d.natAbs = 1
theorem gcd_pos {a b : Int} (h : b ≠ 0) : 0 < Nat.gcd a.natAbs b.natAbs := Nat.gcd_pos_of_pos_right _ (by omega)
theorem shr_ne {a b : Int} (h : b ≠ 0) : shr a b ≠ 0 := by
  have := gcd_pos (a := a) h
  unfold shr
  split <;> omega
theorem shr_abs (a b : Int) : (shr a b).natAbs = Nat.gcd a.natAbs b.natAbs := by
  unfold shr
  split <;> omega
theorem shr_dvd_l (a b : Int) : shr a b ∣ a := by
  rw [← Int.natAbs_dvd_natAbs, shr_abs]
  exact Nat.gcd_dvd_left _ _
theorem shr_dvd_r (a b : Int) : shr a b ∣ b := by
  rw [← Int.natAbs_dvd_natAbs, shr_abs]
  exact Nat.gcd_dvd_right _ _
theorem fdiv_mul {a s : Int} (h : s ∣ a) : a.fdiv s * s = a := Int.fdiv_mul_cancel h
/-- nrm a b = (n, d): what is known -/
structure Nrm (a b n d : Int) : Prop where
  num : isNum n d
  cross : n * b = a * d
  la : n.natAbs ≤ a.natAbs
  lb : d.natAbs ≤ b.natAbs
theorem nrm_spec {a b : Int} (h : b ≠ 0) : Nrm a b (nrm a b).1 (nrm a b).2 := by
  have e1 : a.fdiv (shr a b) * shr a b = a := fdiv_mul (shr_dvd_l a b)
  have e2 : b.fdiv (shr a b) * shr a b = b := fdiv_mul (shr_dvd_r a b)
  have hs := shr_ne (a := a) h
  have hg := gcd_pos (a := a) h
  have habs := shr_abs a b
  show Nrm a b (a.fdiv (shr a b)) (b.fdiv (shr a b))
  generalize hn : a.fdiv (shr a b) = n at *
  generalize hd : b.fdiv (shr a b) = d at *
  have a1 : n.natAbs * Nat.gcd a.natAbs b.natAbs = a.natAbs := by rw [← habs, ← Int.natAbs_mul, e1]
  have a2 : d.natAbs * Nat.gcd a.natAbs b.natAbs = b.natAbs := by rw [← habs, ← Int.natAbs_mul, e2]
  refine ⟨⟨?_, ?_⟩, ?_, ?_, ?_⟩
  · -- the sign
    have hd0 : d ≠ 0 := fun z => by rw [z, Int.zero_mul] at e2; exact h e2.symm
    by_cases hb : b < 0
    · have es : shr a b < 0 := by unfold shr; rw [if_pos hb]; omega
      by_cases hd' : d < 0
      · exact absurd (Int.mul_pos_of_neg_of_neg hd' es) (by omega)
      · omega
    · have es : 0 < shr a b := by unfold shr; rw [if_neg hb]; omega
      by_cases hd' : d < 0
      · exact absurd (Int.mul_neg_of_neg_of_pos hd' es) (by omega)
      · omega
  · have key : Nat.gcd (n.natAbs * Nat.gcd a.natAbs b.natAbs) (d.natAbs * Nat.gcd a.natAbs b.natAbs) = Nat.gcd n.natAbs d.natAbs * Nat.gcd a.natAbs b.natAbs := Nat.gcd_mul_right _ _ _
    rw [a1, a2] at key
    have k2 : Nat.gcd n.natAbs d.natAbs * Nat.gcd a.natAbs b.natAbs = 1 * Nat.gcd a.natAbs b.natAbs := by rw [Nat.one_mul]; exact key.symm
    exact Nat.eq_of_mul_eq_mul_right hg k2
  · have : n * (d * shr a b) = n * shr a b * d := by rw [Int.mul_comm d, ← Int.mul_assoc]
    rw [e2, e1] at this
    exact this
  · have : n.natAbs * 1 ≤ n.natAbs * Nat.gcd a.natAbs b.natAbs := Nat.mul_le_mul_left _ hg
    omega
  · have : d.natAbs * 1 ≤ d.natAbs * Nat.gcd a.natAbs b.natAbs := Nat.mul_le_mul_left _ hg
    omega
theorem num_unique {n d n' d' : Int} (h : isNum n d) (h' : isNum n' d') (e : n * d' = n' * d) : n = n' ∧ d = d' := by
  obtain ⟨h1, h2⟩ := h
  obtain ⟨h1', h2'⟩ := h'
  have ea : n.natAbs * d'.natAbs = n'.natAbs * d.natAbs := by rw [← Int.natAbs_mul, ← Int.natAbs_mul, e]
  have c : Nat.Coprime d.natAbs n.natAbs := Nat.Coprime.symm h2
  have c' : Nat.Coprime d'.natAbs n'.natAbs := Nat.Coprime.symm h2'
  have d1 : d.natAbs ∣ d'.natAbs := c.dvd_of_dvd_mul_left ⟨n'.natAbs, by rw [ea, Nat.mul_comm]⟩
  have d2 : d'.natAbs ∣ d.natAbs := c'.dvd_of_dvd_mul_left ⟨n.natAbs, by rw [← ea, Nat.mul_comm]⟩
  have dd : d.natAbs = d'.natAbs := Nat.dvd_antisymm d1 d2
  have dd' : d = d' := by omega
  subst dd'
  exact ⟨Int.eq_of_mul_eq_mul_right (by omega) e, rfl⟩
/-- the number that a fraction with the same worth has -/
theorem nrm_is {a b n d : Int} (hb : b ≠ 0) (h : isNum n d) (e : n * b = a * d) : nrm a b = (n, d) := by
  have s := nrm_spec (a := a) hb
  have k : (nrm a b).1 * d = n * (nrm a b).2 := by
    have e1 : (nrm a b).1 * b = a * (nrm a b).2 := s.cross
    have : (nrm a b).1 * d * b = n * (nrm a b).2 * b := by
      calc (nrm a b).1 * d * b = (nrm a b).1 * b * d := by rw [Int.mul_assoc, Int.mul_comm d b, ← Int.mul_assoc]
        _ = a * (nrm a b).2 * d := by rw [e1]
        _ = a * d * (nrm a b).2 := by rw [Int.mul_assoc, Int.mul_comm (nrm a b).2 d, ← Int.mul_assoc]
        _ = n * b * (nrm a b).2 := by rw [e]
        _ = n * (nrm a b).2 * b := by rw [Int.mul_assoc, Int.mul_comm b, ← Int.mul_assoc]
    exact Int.eq_of_mul_eq_mul_right hb this
  obtain ⟨e1, e2⟩ := num_unique s.num h k
  exact Prod.ext e1 e2
end Mth
set_option Elab.async false
set_option linter.all false
set_option maxRecDepth 100000
set_option maxHeartbeats 4000000
namespace K1
open PySem PySem.Spec PyProof.Rows L2 RmX Rm
def top (i : Nat) : Stmt := PySem.Challenge.pw_roompace_k01_error_classes.main.body.getD i (.Pass ⟨0, 0, 0, 0⟩)
abbrev sBegin : Stmt := top 34
abbrev sMixed : Stmt := top 35
abbrev sNext : Stmt := top 36

/-! ### the draw: a dict of four -/
abbrev kC : Key := Sum.inr (Str.ofString "cells")
abbrev kA : Key := Sum.inr (Str.ofString "at")
abbrev kL : Key := Sum.inr (Str.ofString "left")
abbrev kU : Key := Sum.inr (Str.ofString "used")
def kvD (c : Addr) (a l u : Int) : List (Key × V) := [(kC, V.ref c), (kA, V.int a), (kL, V.int l), (kU, V.int u)]
theorem n1 : ¬ (Str.ofString "cells" = Str.ofString "at") := by decide +kernel
theorem n2 : ¬ (Str.ofString "cells" = Str.ofString "left") := by decide +kernel
theorem n3 : ¬ (Str.ofString "cells" = Str.ofString "used") := by decide +kernel
theorem n4 : ¬ (Str.ofString "at" = Str.ofString "left") := by decide +kernel
theorem n5 : ¬ (Str.ofString "at" = Str.ofString "used") := by decide +kernel
theorem n6 : ¬ (Str.ofString "left" = Str.ofString "used") := by decide +kernel
theorem m1 : ¬ (Str.ofString "at" = Str.ofString "cells") := by decide +kernel
theorem m2 : ¬ (Str.ofString "left" = Str.ofString "cells") := by decide +kernel
theorem m3 : ¬ (Str.ofString "used" = Str.ofString "cells") := by decide +kernel
theorem m4 : ¬ (Str.ofString "left" = Str.ofString "at") := by decide +kernel
theorem m5 : ¬ (Str.ofString "used" = Str.ofString "at") := by decide +kernel
theorem m6 : ¬ (Str.ofString "used" = Str.ofString "left") := by decide +kernel
theorem ki {x y : Str} (h : ¬ x = y) : ¬ ((Sum.inr x : Key) = Sum.inr y) := fun z => h (Sum.inr.inj z)
theorem vC (c : Addr) (a l u : Int) : valV (kvD c a l u) kC = some (V.ref c) := valV_pos rfl
theorem vA (c : Addr) (a l u : Int) : valV (kvD c a l u) kA = some (V.int a) := (valV_neg (ki n1)).trans (valV_pos rfl)
theorem vL (c : Addr) (a l u : Int) : valV (kvD c a l u) kL = some (V.int l) := (valV_neg (ki n2)).trans ((valV_neg (ki n4)).trans (valV_pos rfl))
theorem vU (c : Addr) (a l u : Int) : valV (kvD c a l u) kU = some (V.int u) := (valV_neg (ki n3)).trans ((valV_neg (ki n5)).trans ((valV_neg (ki n6)).trans (valV_pos rfl)))
theorem pA (c : Addr) (a l u x : Int) : putK (kvD c a l u) kA (V.int x) = kvD c x l u := by
  have e1 := n1; have e4 := m4; have e5 := m5
  simp [putK, kvD, e1, e4, e5]
theorem pL (c : Addr) (a l u x : Int) : putK (kvD c a l u) kL (V.int x) = kvD c a x u := by
  have e2 := n2; have e4 := n4; have e6 := m6
  simp [putK, kvD, e2, e4, e6]
theorem pU (c : Addr) (a l u x : Int) : putK (kvD c a l u) kU (V.int x) = kvD c a l x := by
  have e3 := n3; have e5 := n5; have e6 := n6
  simp [putK, kvD, e3, e5, e6]
theorem dk_mk (c : Addr) (a l u : Int) : mergeK [] (kvD c a l u) = kvD c a l u := by
  have e1 := n1; have e2 := n2; have e3 := n3; have e4 := n4; have e5 := n5; have e6 := n6
  simp [mergeK, putK, kvD, e1, e2, e3, e4, e5, e6]
/-- the draw stands at p, its cells at c; fewer than n + 1 cells were passed -/
def DrawAt (H : Hp) (p c : Addr) (n : Nat) : Prop := ∃ (a l u : Int) (ns : List Int), H p = some (.dK (kvD c a l u)) ∧ H c = some (.lst (ns.map V.int)) ∧ 0 < ns.length ∧ ns.length ≤ 64 ∧ 0 ≤ a ∧ a ≤ n ∧ 0 ≤ l ∧ 0 ≤ u ∧ u ≤ n
/-- all that was tracked stays, but p -/
def Kp (p : Addr) (H H' : Hp) : Prop := ∀ b o, H b = some o → b ≠ p → H' b = some o
theorem Kp.refl (p : Addr) (H : Hp) : Kp p H H := fun _ _ e _ => e
theorem Kp.trans {p : Addr} {H H1 H2 : Hp} (a : Kp p H H1) (b : Kp p H1 H2) : Kp p H H2 := fun c o e n => b c o (a c o e n) n
theorem Kp.new {p a : Addr} {H H' : Hp} {o : HO} (k : Kp p H H') (n : H' a = none) : Kp p H (upd H' a o) := fun c u e hn => by
  rw [upd_ne (ne_of_none (k c u e hn) n)]
  exact k c u e hn
theorem Kp.newS {p a : Addr} {H : Hp} {o : HO} (n : H a = none) : Kp p H (upd H a o) := (Kp.refl p H).new n
theorem Kp.self {p : Addr} {H : Hp} {o : HO} : Kp p H (upd H p o) := fun c u e hn => by rw [upd_ne hn]; exact e
theorem DrawAt.p {H : Hp} {p c : Addr} {n : Nat} (d : DrawAt H p c n) : ∃ o, H p = some o := by
  obtain ⟨a, l, u, ns, h, _⟩ := d
  exact ⟨_, h⟩
theorem DrawAt.ne {H : Hp} {p c : Addr} {n : Nat} (d : DrawAt H p c n) : c ≠ p := by
  obtain ⟨a, l, u, ns, h, h2, _⟩ := d
  exact ne_of h2 h (by intro z; cases z)
theorem DrawAt.mono {H : Hp} {p c : Addr} {n m : Nat} (d : DrawAt H p c n) (h : n ≤ m) : DrawAt H p c m := by
  obtain ⟨a, l, u, ns, h1, h2, h3, h4, h5, h6, h7, h8, h9⟩ := d
  exact ⟨a, l, u, ns, h1, h2, h3, h4, h5, by omega, h7, h8, by omega⟩
theorem DrawAt.same {H H' : Hp} {p c : Addr} {n : Nat} (d : DrawAt H p c n) (s : Same H H') : DrawAt H' p c n := by
  obtain ⟨a, l, u, ns, h1, h2, h3⟩ := d
  exact ⟨a, l, u, ns, s _ _ h1, s _ _ h2, h3⟩
/-- script's, draw's and mixer's promises -/
def spBegin (K : PySem.W.Frag) : Sp := fun vs H Q _ => ∃ (a : Addr) (ns : List Int), vs = [.ref a] ∧ SqL K H a (ns.map V.int) ∧ ns.length ≤ 63 ∧ ∀ p c H', DrawAt H' p c 0 → Same H H' → Q (.ref p) H'
def spMixed : Sp := fun vs H Q _ => ∃ (cell k : Int), vs = [.int cell, .int k] ∧ 0 ≤ k ∧ k < 2 ^ 40 ∧ ∀ r : Int, 0 ≤ r → r < 2 ^ 31 → Q (.int r) H
def spNext : Sp := fun vs H Q _ => ∃ (p c : Addr) (n : Nat) (bound : Int), vs = [.ref p, .int bound] ∧ DrawAt H p c n ∧ n < 2 ^ 30 ∧ 0 < bound ∧ bound < 2 ^ 30 ∧
  ∀ (r : Int) (H' : Hp), 0 ≤ r → r < bound → DrawAt H' p c (n + 1) → Kp p H H' → (∀ b, b ≠ p → H' b = H b) → Q (.int r) H'
structure TxtD (K : PySem.W.Frag) (mg : Str → Option Value) (fM : Addr) : Prop where
  len : mg "len" = none
  gM : mg "_law_mixed" = some (.ref fM)
  kM : PySem.W.keepIn K (.ref fM) = true
section
variable {P : Program} {w : World} {K : PySem.W.Frag} {mg : Str → Option Value} {base : Heap}
theorem scB : FnScope ["script"] ["script"] (defScope sBegin) := ⟨rfl, rfl, rfl, by decide +kernel, rfl, by decide +kernel, by decide +kernel⟩
theorem ok_begin {f : Addr} {fd : FuncData} (F : Fun K "_law_begin" "_law_begin" sBegin f fd) : FnG P w K mg base 1 f fd ["script"] (spBegin K) := by
  refine okG F scB (fun vs H Q E h => ?_) (fun cdv A outer s H vs Q E hr hgd h => ?_)
  · obtain ⟨a, ns, rfl, _⟩ := h
    rfl
  · obtain ⟨a, ns, rfl, hS, hl, k⟩ := h
    refine ⟨_, pss_one (ps_ret (pe_disp (pps_cons pe_str (pe_op op_catS (pv 0) (pe_lst (pa_cons pe_int pa_nil))) (pps_cons pe_str pe_int (pps_cons pe_str pe_int (pps_cons pe_str pe_int pps_nil)))) (by rfl) (by rfl) (fun z => by cases z) (by decide))), ?_⟩
    intro p np
    have s1 : Same H (upd H p (.dK [])) := fun b o e => by rw [upd_ne (ne_of_none e np)]; exact e
    refine ⟨_, rfl, by rw [sizeLine_eq]; show 1 ≤ 16777216; decide, fun l nl => ?_⟩
    have s2 : Same H (upd (upd H p (.dK [])) l (.lst [V.int 0])) := fun b o e => by rw [upd_ne (ne_of_none (s1 b o e) nl)]; exact s1 b o e
    refine ⟨a, l, ns.map V.int, [V.int 0], rfl, rfl, s2.seq hS, SqL.of upd_same, by rw [List.length_map, sizeLine_eq]; show ns.length + 1 ≤ _; omega, fun c nc => ?_⟩
    have s3 : Same H (upd (upd (upd H p (.dK [])) l (.lst [V.int 0])) c (.lst (ns.map V.int ++ [V.int 0]))) := fun b o e => by rw [upd_ne (ne_of_none (s2 b o e) nc)]; exact s2 b o e
    have npl : p ≠ l := ne_of_none upd_same nl
    have npc : p ≠ c := ne_of_none (show (upd (upd H p (.dK [])) l (.lst [V.int 0])) p = some (.dK []) by rw [upd_ne npl, upd_same]) nc
    refine ⟨by rw [upd_ne npc, upd_ne npl, upd_same], kvD c 0 0 0, rfl, by show 4 ≤ 15; decide, ?_⟩
    rw [dk_mk]
    refine k p c _ ⟨0, 0, 0, ns ++ [0], upd_same, ?_, by simp, by simp; omega, by omega, by omega, by omega, by omega, by omega⟩ fun b o e => ?_
    · rw [upd_ne (Ne.symm npc), upd_same, List.map_append]
      rfl
    · rw [upd_ne (ne_of_none e np)]
      exact s3 b o e
theorem md (e : Int) {M : Int} (h : 0 < M) (hM : M < 2 ^ 64) : -(2 ^ 64) < e % M ∧ e % M < 2 ^ 64 := by
  have a := Int.emod_nonneg e (show M ≠ 0 by omega)
  have b := Int.emod_lt_of_pos e h
  omega
theorem fin_b (e : Int) : 0 ≤ e % 2147483647 / 7 ∧ e % 2147483647 / 7 < 2 ^ 31 := by omega
theorem scM : FnScope ["cell", "k", "mixed"] ["cell", "k"] (defScope sMixed) := ⟨rfl, rfl, rfl, by decide +kernel, rfl, by decide +kernel, by decide +kernel⟩
theorem ok_mixed {f : Addr} {fd : FuncData} (F : Fun K "_law_mixed" "_law_mixed" sMixed f fd) : FnG P w K mg base 1 f fd ["cell", "k"] spMixed := by
  refine okG F scM (fun vs H Q E h => ?_) (fun cdv A outer s H vs Q E hr hgd h => ?_)
  · obtain ⟨cell, k, rfl, _⟩ := h
    rfl
  · obtain ⟨cell, k, rfl, h0, h1, kq⟩ := h
    refine ⟨_, pss_cons (ps_set (i := 2) scM.nd rfl (Or.inl rfl) (pe_op op_mod (pe_op op_add (pe_op op_add (pe_op op_add (pe_op op_mod (pv 0) pe_int) (pe_op op_mul (pe_op op_mul pe_int (pv 1)) (pv 1))) (pe_op op_mul pe_int (pv 1))) pe_int) pe_int))
      (pss_cons (ps_set (i := 2) scM.nd rfl (Or.inl rfl) (pe_op op_mod (pe_op op_mul (pe_op op_mod (pe_op op_mul (pv 2) (pv 2)) pe_int) (pv 2)) pe_int))
      (pss_one (ps_ret (pe_op op_fdiv (pe_op op_mod (pe_op op_mul (pv 2) (pe_op op_add pe_int (pe_op op_mul pe_int (pe_op op_mod (pv 1) pe_int)))) pe_int) pe_int)))), ?_⟩
    refine ⟨_, rfl, _, _, rfl, rfl, (by show (0 : Int) < 1000000007; decide), _, rfl, _, _, rfl, rfl, .inl ⟨by decide, by decide⟩, _, rfl, _, _, rfl, rfl, .inr ⟨by omega, by omega⟩, _, _, rfl, rfl, _, rfl, _, _, rfl, rfl, .inl ⟨by decide, by decide⟩, _, _, rfl, rfl, _, _, rfl, rfl, _, _, rfl, rfl, (by show (0 : Int) < 2147483647; decide), ?_⟩
    refine ⟨_, rfl, _, rfl, _, _, rfl, rfl, .inl (md _ (by decide) (by decide)), _, _, rfl, rfl, (by show (0 : Int) < 2147483647; decide), _, rfl, _, _, rfl, rfl, .inl (md _ (by decide) (by decide)), _, _, rfl, rfl, (by show (0 : Int) < 2147483629; decide), ?_⟩
    refine ⟨_, rfl, _, rfl, _, _, rfl, rfl, (by show (0 : Int) < 1000; decide), _, _, rfl, rfl, .inl ⟨by decide, by decide⟩, _, _, rfl, rfl, _, _, rfl, rfl, .inl (md _ (by decide) (by decide)), _, _, rfl, rfl, (by show (0 : Int) < 2147483647; decide), _, _, rfl, rfl, ⟨by decide, by decide⟩, ?_⟩
    exact kq _ (fin_b _).1 (fin_b _).2
theorem scN : FnScope ["draw", "bound", "found", "cells", "cell"] ["draw", "bound"] (defScope sNext) := ⟨rfl, rfl, rfl, by decide +kernel, rfl, by decide +kernel, by decide +kernel⟩
theorem ok_next {f fM : Addr} {fd fdM : FuncData} (F : Fun K "_law_next" "_law_next" sNext f fd) (T : TxtD K mg fM) (FM : Fun K "_law_mixed" "_law_mixed" sMixed fM fdM) (bM : Binds K fdM ["cell", "k"] []) : FnG P w K mg base 2 f fd ["draw", "bound"] spNext := by
  have GM : FnG P w K mg base 1 fM fdM ["cell", "k"] spMixed := ok_mixed FM
  refine okG F scN (fun vs H Q E h => ?_) (fun cdv A outer s H vs Q E hr hgd h => ?_)
  · obtain ⟨p, c, n, b, rfl, _⟩ := h
    rfl
  · obtain ⟨p, c, n, bd, rfl, D, hn, b0, b1, kq⟩ := h
    have hu := hu_of hr
    obtain ⟨a, l, u, ns, h1, h2, h3, h4, h5, h6, h7, h8, h9⟩ := id D
    have ncp : c ≠ p := D.ne
    refine ⟨_, pss_cons (ps_if (pt_cmpR op_gt (pe_dget hu (pv 0) pe_str (fun _ _ => rfl)) pe_int (nomark _))
        (pss_cons (ps_set (i := 2) scN.nd rfl (Or.inl rfl) (pe_op op_mod (pe_dget hu (pv 0) pe_str (fun _ _ => rfl)) (pv 1)))
          (pss_cons (ps_dput hu (pv 0) pe_str (pe_op op_fdiv (pe_dget hu (pv 0) pe_str (fun _ _ => rfl)) (pv 1)) rfl)
          (pss_one (ps_ret (pv 2))))) pss_nil)
      (pss_cons (ps_set (i := 3) scN.nd rfl (Or.inl rfl) (pe_dget hu (pv 0) pe_str (fun _ _ => rfl)))
      (pss_cons (ps_set (i := 4) scN.nd rfl (Or.inl rfl) (pe_ix ix_list (pv 3) (pe_op op_mod (pe_dget hu (pv 0) pe_str (fun _ _ => rfl)) (pe_callB call_len_seq (by rfl) T.len PySem.boot_len (pa_cons (pv 3) pa_nil))) (fun _ _ => rfl)))
      (pss_cons (ps_dput hu (pv 0) pe_str (pe_op op_add (pe_dget hu (pv 0) pe_str (fun _ _ => rfl)) pe_int) rfl)
      (pss_cons (ps_if (PW.pt (pw_and (pt_cmpR op_ge (pv 4) (pe_op op_pow pe_int pe_int) (nomark _)) (pw_and1 (pt_cmpR op_le (pe_dget hu (pv 0) pe_str (fun _ _ => rfl)) (pe_callB call_len_seq (by rfl) T.len PySem.boot_len (pa_cons (pv 3) pa_nil)) (nomark _)))))
        (pss_cons (ps_dput hu (pv 0) pe_str (pe_op op_fdiv (pv 4) (pv 1)) rfl) (pss_one (ps_ret (pe_op op_mod (pv 4) (pv 1))))) pss_nil)
      (pss_cons (ps_dput hu (pv 0) pe_str (pe_op op_add (pe_dget hu (pv 0) pe_str (fun _ _ => rfl)) pe_int) rfl)
      (pss_one (ps_ret (pe_op op_mod (pe_callG (E := fun _ => E0) GM hr hgd rfl T.gM T.kM bM .nil pass0G (pa_cons (pe_callG (E := fun _ => E0) GM hr hgd rfl T.gM T.kM bM .nil pass0G (pa_cons (pv 4) (pa_cons (pe_dget hu (pv 0) pe_str (fun _ _ => rfl)) pa_nil))) (pa_cons (pe_dget hu (pv 0) pe_str (fun _ _ => rfl)) pa_nil))) (pv 1))))))))), ?_⟩
    have dg : ∀ {G : Hp} {a' l' u' : Int}, G p = some (.dK (kvD c a' l' u')) → DGet G p (.str (Str.ofString "left")) (some (.int l')) ∧ DGet G p (.str (Str.ofString "at")) (some (.int a')) ∧ DGet G p (.str (Str.ofString "used")) (some (.int u')) ∧ DGet G p (.str (Str.ofString "cells")) (some (.ref c)) := fun {G a' l' u'} e => by
      refine ⟨?_, ?_, ?_, ?_⟩
      · rw [← vL c a' l' u']; exact DGet.k (k := kL) e
      · rw [← vA c a' l' u']; exact DGet.k (k := kA) e
      · rw [← vU c a' l' u']; exact DGet.k (k := kU) e
      · rw [← vC c a' l' u']; exact DGet.k (k := kC) e
    have dpL : ∀ {G : Hp} {a' l' u' : Int} (x : Int), G p = some (.dK (kvD c a' l' u')) → DPut G p (.str (Str.ofString "left")) (.int x) (upd G p (.dK (kvD c a' x u'))) := fun {G a' l' u'} x e => by
      rw [← pL c a' l' u' x]; exact DPut.k (k := kL) e (by rw [sizeLine_eq]; show 4 < 16777216; decide)
    have dpA : ∀ {G : Hp} {a' l' u' : Int} (x : Int), G p = some (.dK (kvD c a' l' u')) → DPut G p (.str (Str.ofString "at")) (.int x) (upd G p (.dK (kvD c x l' u'))) := fun {G a' l' u'} x e => by
      rw [← pA c a' l' u' x]; exact DPut.k (k := kA) e (by rw [sizeLine_eq]; show 4 < 16777216; decide)
    have dpU : ∀ {G : Hp} {a' l' u' : Int} (x : Int), G p = some (.dK (kvD c a' l' u')) → DPut G p (.str (Str.ofString "used")) (.int x) (upd G p (.dK (kvD c a' l' x))) := fun {G a' l' u'} x e => by
      rw [← pU c a' l' u' x]; exact DPut.k (k := kU) e (by rw [sizeLine_eq]; show 4 < 16777216; decide)
    have fin : ∀ {a' l' u' : Int} (r : Int), 0 ≤ a' → a' ≤ a + 1 → 0 ≤ l' → 0 ≤ u' → u' ≤ u + 1 → 0 ≤ r → r < bd → Q (.int r) (upd H p (.dK (kvD c a' l' u'))) := fun {a' l' u'} r e1 e2 e3 e4 e5 e6 e7 =>
      kq r _ e6 e7 ⟨a', l', u', ns, upd_same, by rw [upd_ne ncp]; exact h2, h3, h4, e1, by omega, e3, e4, by omega⟩ Kp.self fun b hb => upd_ne hb
    refine ⟨_, rfl, p, .int l, rfl, (dg h1).1, _, _, rfl, rfl, _, rfl, ?_⟩
    refine ite2 (fun hl => ?_) (fun hl => ?_)
    · have hl0 : 0 < l := of_decide_eq_true hl
      refine ⟨_, rfl, p, .int l, rfl, (dg h1).1, _, rfl, _, _, rfl, rfl, b0, ?_⟩
      refine ⟨_, rfl, p, .int l, rfl, (dg h1).1, _, rfl, _, _, rfl, rfl, ⟨b0, by omega⟩, _, rfl, p, _, rfl, dpL _ h1, _, rfl, ?_⟩
      exact fin _ h5 (by omega) (Int.ediv_nonneg h7 (by omega)) h8 (by omega) (Int.emod_nonneg _ (by omega)) (Int.emod_lt_of_pos _ b0)
    · refine ⟨_, rfl, p, .ref c, rfl, (dg h1).2.2.2, ?_⟩
      have hlen : ((ns.map V.int).length : Int) = (ns.length : Int) := by rw [List.length_map]
      obtain ⟨x, hx⟩ : ∃ x : Int, atI (ns.map V.int) (a % ((ns.map V.int).length : Int)) = some (V.int x) := by
        rw [hlen]
        have e0 := Int.emod_nonneg a (show (ns.length : Int) ≠ 0 by omega)
        have e1 := Int.emod_lt_of_pos a (show (0 : Int) < (ns.length : Int) by omega)
        obtain ⟨j, hj⟩ : ∃ j : Nat, a % (ns.length : Int) = (j : Int) := ⟨(a % (ns.length : Int)).toNat, by omega⟩
        rw [hj]
        have hjl : j < ns.length := by omega
        exact ⟨ns[j], atI_nat (by rw [List.getElem?_map, List.getElem?_eq_getElem hjl]; rfl)⟩
      refine ⟨_, rfl, _, rfl, p, .int a, rfl, (dg h1).2.1, _, rfl, c, _, rfl, .inl (SqL.of h2), _, _, rfl, rfl, by rw [hlen]; omega, c, _, _, .int x, rfl, rfl, SqL.of h2, hx, ?_⟩
      refine ⟨_, rfl, p, .int a, rfl, (dg h1).2.1, _, _, rfl, rfl, _, rfl, p, _, rfl, dpA _ h1, ?_⟩
      have g1 : (upd H p (.dK (kvD c (a + 1) l u))) p = some (.dK (kvD c (a + 1) l u)) := upd_same
      have g2 : (upd H p (.dK (kvD c (a + 1) l u))) c = some (.lst (ns.map V.int)) := by rw [upd_ne ncp]; exact h2
      refine ⟨_, rfl, _, _, rfl, rfl, ⟨by decide, by decide, by decide⟩, _, _, rfl, rfl, _, rfl, ?_⟩
      refine ite2 (fun hc => ?_) (fun hc => iteF ?_)
      · refine ⟨_, rfl, p, _, rfl, (dg g1).2.1, _, rfl, c, _, rfl, .inl (SqL.of g2), _, _, rfl, rfl, _, rfl, ?_⟩
        refine ite2 (fun hd => ?_) (fun hd => ?_)
        · have hx0 : (10 : Int) ^ 18 ≤ x := of_decide_eq_true hc
          refine ⟨_, rfl, _, rfl, _, _, rfl, rfl, ⟨b0, by omega⟩, _, rfl, p, _, rfl, dpL _ g1, _, rfl, _, rfl, _, _, rfl, rfl, b0, ?_⟩
          rw [upd_upd]
          exact fin _ (by omega) (by omega) (Int.ediv_nonneg (by omega) (by omega)) h8 (by omega) (Int.emod_nonneg _ (by omega)) (Int.emod_lt_of_pos _ b0)
        · refine ⟨_, rfl, p, _, rfl, (dg g1).2.2.1, _, _, rfl, rfl, _, rfl, p, _, rfl, dpU _ g1, ?_⟩
          have f1 : (upd (upd H p (.dK (kvD c (a + 1) l u))) p (.dK (kvD c (a + 1) l (u + 1)))) p = some (.dK (kvD c (a + 1) l (u + 1))) := upd_same
          refine ⟨_, rfl, _, rfl, p, _, rfl, (dg f1).2.1, x, a + 1, rfl, by omega, by omega, fun r1 r10 r11 => ?_⟩
          refine ⟨_, rfl, p, _, rfl, (dg f1).2.2.1, r1, u + 1, rfl, by omega, by omega, fun r2 r20 r21 => ?_⟩
          refine ⟨_, rfl, _, _, rfl, rfl, b0, ?_⟩
          rw [upd_upd]
          exact fin _ (by omega) (by omega) h7 (by omega) (by omega) (Int.emod_nonneg _ (by omega)) (Int.emod_lt_of_pos _ b0)
      · refine ⟨_, rfl, p, _, rfl, (dg g1).2.2.1, _, _, rfl, rfl, _, rfl, p, _, rfl, dpU _ g1, ?_⟩
        have f1 : (upd (upd H p (.dK (kvD c (a + 1) l u))) p (.dK (kvD c (a + 1) l (u + 1)))) p = some (.dK (kvD c (a + 1) l (u + 1))) := upd_same
        refine ⟨_, rfl, _, rfl, p, _, rfl, (dg f1).2.1, x, a + 1, rfl, by omega, by omega, fun r1 r10 r11 => ?_⟩
        refine ⟨_, rfl, p, _, rfl, (dg f1).2.2.1, r1, u + 1, rfl, by omega, by omega, fun r2 r20 r21 => ?_⟩
        refine ⟨_, rfl, _, _, rfl, rfl, b0, ?_⟩
        rw [upd_upd]
        exact fin _ (by omega) (by omega) h7 (by omega) (by omega) (Int.emod_nonneg _ (by omega)) (Int.emod_lt_of_pos _ b0)
end
end K1
set_option Elab.async false
set_option linter.all false
set_option maxRecDepth 100000
set_option maxHeartbeats 4000000
set_option exponentiation.threshold 100000
namespace K1
open PySem PySem.Spec PyProof.Rows L2 RmX Rm
abbrev sMade : Stmt := top 37
/-! ### what a call of a def needs -/
structure Cal (P : Program) (w : World) (K : PySem.W.Frag) (mg : Str → Option Value) (base : Heap) (x : Str) (f : Addr) (fd : FuncData) (k : Nat) (ps : List Str) (sp : Sp) : Prop where
  fn : FnG P w K mg base k f fd ps sp
  g : mg x = some (.ref f)
  k : PySem.W.keepIn K (.ref f) = true
  b : Binds K fd ps []
/-- a promise as one word, not opened by the unifier -/
structure Bx (p : Prop) : Prop where
  h : p
def bx (sp : Sp) : Sp := fun vs H Q E => Bx (sp vs H Q E)
theorem fn_bx {P : Program} {w : World} {K : PySem.W.Frag} {mg : Str → Option Value} {base : Heap} {k : Nat} {f : Addr} {fd : FuncData} {ps : List Str} {sp : Sp} (F : FnG P w K mg base k f fd ps sp) : FnG P w K mg base k f fd ps (bx sp) := F.imp fun _ _ _ _ q => q.h
section
variable {X : Cx} {k : Nat} {f : Addr} {fd : FuncData} {ps ks : List Str} {sp : Sp} {x : Str} {p pos : Pos} {e : Expr} {es : List Expr} {kws : List Keyword} {t tk : TA} {g : List Value → List Value → List Value} {gV : List V → List V → List V}
theorem pe_cal (c : Cal X.prog X.w X.K X.mg X.base x f fd k ps sp) (hr : Room k X.A) (hgd : X.A.guards = some []) (ha : PA X (e :: es) t) (hg : Gl X x := by rfl)
    (hdb : (x == ("__debug__" : Str)) = false := by decide) (he : starEach (e :: es) X.env = (false, eval e X.env) :: starEach es X.env := by rfl) (hpl : (backTo pos (starEach es X.env)).any (·.1) = false := by rfl) :
    PE X (.Call (.Name x p) (e :: es) [] pos) (tCallSD sp [] (fun _ => E0) t) := pe_callG c.fn hr hgd hg c.g c.k c.b .nil pass0G ha hdb he hpl
theorem pe_calK (c : Cal X.prog X.w X.K X.mg X.base x f fd k ps sp) (hb : KBinds X.K fd ps ks g gV) (hr : Room k X.A) (hgd : X.A.guards = some []) (hkw : PK X kws tk) (hg : Gl X x := by rfl)
    (hall : (backToKw pos (keywordEach kws X.env)).all (·.1.isSome) = true := by rfl) (hks : (backToKw pos (keywordEach kws X.env)).filterMap (·.1) = ks := by rfl)
    (hdb : (x == ("__debug__" : Str)) = false := by decide) (hpl : ((backTo pos (starEach [] X.env)).any (·.1) || (backToKw pos (keywordEach kws X.env)).any (·.1.isNone)) = false := by rfl) :
    PE X (.Call (.Name x p) [] kws pos) (tCallKG sp gV (fun _ => E0) tk) := pe_callKG c.fn hr hgd hg c.g c.k hb pass0G hkw hall hks hdb hpl
end
theorem sqT_same {K : PySem.W.Frag} {H H' : Hp} {a : Addr} {xs : List V} (s : Same H H') (h : SqT K H a xs) : SqT K H' a xs := by
  rcases h with (h | ⟨o, h⟩) | h
  · exact .inl (.inl (s _ _ h))
  · exact .inl (.inr ⟨o, s _ _ h⟩)
  · exact .inr h
theorem same_tr {H H1 H2 : Hp} (s : Same H H1) (s2 : Same H1 H2) : Same H H2 := fun b o e => s2 b o (s b o e)
theorem same_rf (H : Hp) : Same H H := fun _ _ e => e
theorem sh_int {i : Int} (h : i.natAbs < 2 ^ 1900) : (PyData.int i).showable = true := by
  have := PySem.Flt.log2_lt_of (show 0 < 1900 by decide) h
  simp only [PyData.showable, decide_eq_true_eq]
  omega
def RepP (K : PySem.W.Frag) (xs : List V) (H : Hp) (Q : VK) : Prop := ∃ v d, xs = [v] ∧ Dp K H v d ∧ d.showable = true ∧ d.hasDict = false ∧ d.depth ≤ 20 ∧ d.shown.length ≤ sizeLine ∧ Q (.str d.shown) H
def rRep (K : PySem.W.Frag) : List V → Hp → VK → Prop := fun xs H Q => Bx (RepP K xs H Q)
theorem rep_ok {K : PySem.W.Frag} {H : Hp} {v : V} {d : PyData} {Q : VK} (hd : Dp K H v d) (f : Fit d) (h : Q (.str d.shown) H) : Bx (RepP K [v] H Q) :=
  ⟨v, d, rfl, hd, f.1, f.2.1, f.2.2.1, Nat.le_trans f.2.2.2 (by rw [sizeLine_eq]; decide), h⟩
theorem call_rep {X : Cx} {k : Nat} (hr : Room k X.A) (hgd : X.A.guards = some []) : CallR X (.builtin "repr") (rRep X.K) := fun pins s σ H xs us Q I r h => call_reprD hr hgd pins s σ H xs us Q I r h.h
theorem same_of {H H2 : Hp} {p : Addr} {o : HO} (n : H p = none) (e : upd H p o = H2) : Same H H2 ∧ H2 p = some o := by
  subst e
  exact ⟨fun b u q => by rw [upd_ne (ne_of_none q n)]; exact q, upd_same⟩
theorem mk_of {H H2 : Hp} {a dx : Addr} {o u : HO} (n1 : H dx = none) (n2 : H a = none) (ne : dx ≠ a) (e : upd (upd H dx o) a u = H2) : Same H H2 ∧ H2 a = some u ∧ H2 dx = some o := by
  subst e
  exact ⟨fun b v q => by rw [upd_ne (ne_of_none q n2), upd_ne (ne_of_none q n1)]; exact q, upd_same, by rw [upd_ne ne]; exact upd_same⟩
theorem fn_amount : FName (Str.ofString "amount") := ⟨rfl, by decide, by decide +kernel, by decide +kernel, rfl, rfl, rfl, fun _ _ _ _ _ _ _ _ _ _ _ _ => rfl, fun _ _ _ _ _ _ _ _ _ _ _ _ => rfl⟩
theorem fn_count : FName (Str.ofString "count") := ⟨rfl, by decide, by decide +kernel, by decide +kernel, rfl, rfl, rfl, fun _ _ _ _ _ _ _ _ _ _ _ _ => rfl, fun _ _ _ _ _ _ _ _ _ _ _ _ => rfl⟩
theorem fn_index : FName (Str.ofString "index") := ⟨rfl, by decide, by decide +kernel, by decide +kernel, rfl, rfl, rfl, fun _ _ _ _ _ _ _ _ _ _ _ _ => rfl, fun _ _ _ _ _ _ _ _ _ _ _ _ => rfl⟩
theorem fn_limit : FName (Str.ofString "limit") := ⟨rfl, by decide, by decide +kernel, by decide +kernel, rfl, rfl, rfl, fun _ _ _ _ _ _ _ _ _ _ _ _ => rfl, fun _ _ _ _ _ _ _ _ _ _ _ _ => rfl⟩
theorem fn_line : FName (Str.ofString "line") := ⟨rfl, by decide, by decide +kernel, by decide +kernel, rfl, rfl, rfl, fun _ _ _ _ _ _ _ _ _ _ _ _ => rfl, fun _ _ _ _ _ _ _ _ _ _ _ _ => rfl⟩
theorem fn_name : FName (Str.ofString "name") := ⟨rfl, by decide, by decide +kernel, by decide +kernel, rfl, rfl, rfl, fun _ _ _ _ _ _ _ _ _ _ _ _ => rfl, fun _ _ _ _ _ _ _ _ _ _ _ _ => rfl⟩
theorem fn_names : FName (Str.ofString "names") := ⟨rfl, by decide, by decide +kernel, by decide +kernel, rfl, rfl, rfl, fun _ _ _ _ _ _ _ _ _ _ _ _ => rfl, fun _ _ _ _ _ _ _ _ _ _ _ _ => rfl⟩
theorem fn_pace : FName (Str.ofString "pace") := ⟨rfl, by decide, by decide +kernel, by decide +kernel, rfl, rfl, rfl, fun _ _ _ _ _ _ _ _ _ _ _ _ => rfl, fun _ _ _ _ _ _ _ _ _ _ _ _ => rfl⟩
theorem fn_person : FName (Str.ofString "person") := ⟨rfl, by decide, by decide +kernel, by decide +kernel, rfl, rfl, rfl, fun _ _ _ _ _ _ _ _ _ _ _ _ => rfl, fun _ _ _ _ _ _ _ _ _ _ _ _ => rfl⟩
theorem fn_reading : FName (Str.ofString "reading") := ⟨rfl, by decide, by decide +kernel, by decide +kernel, rfl, rfl, rfl, fun _ _ _ _ _ _ _ _ _ _ _ _ => rfl, fun _ _ _ _ _ _ _ _ _ _ _ _ => rfl⟩
theorem fn_reason : FName (Str.ofString "reason") := ⟨rfl, by decide, by decide +kernel, by decide +kernel, rfl, rfl, rfl, fun _ _ _ _ _ _ _ _ _ _ _ _ => rfl, fun _ _ _ _ _ _ _ _ _ _ _ _ => rfl⟩
theorem fn_room : FName (Str.ofString "room") := ⟨rfl, by decide, by decide +kernel, by decide +kernel, rfl, rfl, rfl, fun _ _ _ _ _ _ _ _ _ _ _ _ => rfl, fun _ _ _ _ _ _ _ _ _ _ _ _ => rfl⟩
theorem fn_thing : FName (Str.ofString "thing") := ⟨rfl, by decide, by decide +kernel, by decide +kernel, rfl, rfl, rfl, fun _ _ _ _ _ _ _ _ _ _ _ _ => rfl, fun _ _ _ _ _ _ _ _ _ _ _ _ => rfl⟩
structure Adr where
  CA : Nat → Addr
  fA : Nat → Addr
  FA : Nat → Addr
def FN (k : Nat) : Str := ([Str.ofString "thing", Str.ofString "name", Str.ofString "pace", Str.ofString "amount", Str.ofString "reading", Str.ofString "count", Str.ofString "index", Str.ofString "line", Str.ofString "name", Str.ofString "room", Str.ofString "room", Str.ofString "person", Str.ofString "person", Str.ofString "room", Str.ofString "name", Str.ofString "room", Str.ofString "limit", Str.ofString "limit", Str.ofString "limit", Str.ofString "person", Str.ofString "names", Str.ofString "reason", Str.ofString "person", Str.ofString "room", Str.ofString "person", Str.ofString "name", Str.ofString "name", Str.ofString "name", Str.ofString "reading"] : List Str).getD k (Str.ofString "")
structure TxtC (P : Program) (K : PySem.W.Frag) (mg : Str → Option Value) (c : Adr) : Prop where
  t0 : ExT P K mg (c.CA 0) (c.fA 0) (Str.ofString "thing") "ValueError" "ValueError.__new__" "ValueError.__init__" [.type "ValueError", .type "Exception", .type "BaseException", .type "object"]
  g0 : mg "InvalidNumber" = some (.ref (c.CA 0))
  t1 : ExT P K mg (c.CA 1) (c.fA 1) (Str.ofString "name") "ValueError" "ValueError.__new__" "ValueError.__init__" [.type "ValueError", .type "Exception", .type "BaseException", .type "object"]
  g1 : mg "InvalidName" = some (.ref (c.CA 1))
  t2 : ExT P K mg (c.CA 2) (c.fA 2) (Str.ofString "pace") "ValueError" "ValueError.__new__" "ValueError.__init__" [.type "ValueError", .type "Exception", .type "BaseException", .type "object"]
  g2 : mg "InvalidPace" = some (.ref (c.CA 2))
  t3 : ExT P K mg (c.CA 3) (c.fA 3) (Str.ofString "amount") "ValueError" "ValueError.__new__" "ValueError.__init__" [.type "ValueError", .type "Exception", .type "BaseException", .type "object"]
  g3 : mg "InvalidAmount" = some (.ref (c.CA 3))
  t4 : ExT P K mg (c.CA 4) (c.fA 4) (Str.ofString "reading") "ValueError" "ValueError.__new__" "ValueError.__init__" [.type "ValueError", .type "Exception", .type "BaseException", .type "object"]
  g4 : mg "InvalidReading" = some (.ref (c.CA 4))
  t5 : ExT P K mg (c.CA 5) (c.fA 5) (Str.ofString "count") "ValueError" "ValueError.__new__" "ValueError.__init__" [.type "ValueError", .type "Exception", .type "BaseException", .type "object"]
  g5 : mg "InvalidCount" = some (.ref (c.CA 5))
  t6 : ExT P K mg (c.CA 6) (c.fA 6) (Str.ofString "index") "ValueError" "ValueError.__new__" "ValueError.__init__" [.type "ValueError", .type "Exception", .type "BaseException", .type "object"]
  g6 : mg "InvalidDeed" = some (.ref (c.CA 6))
  t7 : ExT P K mg (c.CA 7) (c.fA 7) (Str.ofString "line") "ValueError" "ValueError.__new__" "ValueError.__init__" [.type "ValueError", .type "Exception", .type "BaseException", .type "object"]
  g7 : mg "InvalidText" = some (.ref (c.CA 7))
  t8 : ExT P K mg (c.CA 8) (c.fA 8) (Str.ofString "name") "RuntimeError" "RuntimeError.__new__" "RuntimeError.__init__" [.type "RuntimeError", .type "Exception", .type "BaseException", .type "object"]
  g8 : mg "NameTaken" = some (.ref (c.CA 8))
  t9 : ExT P K mg (c.CA 9) (c.fA 9) (Str.ofString "room") "RuntimeError" "RuntimeError.__new__" "RuntimeError.__init__" [.type "RuntimeError", .type "Exception", .type "BaseException", .type "object"]
  g9 : mg "Outermost" = some (.ref (c.CA 9))
  t10 : ExT P K mg (c.CA 10) (c.fA 10) (Str.ofString "room") "RuntimeError" "RuntimeError.__new__" "RuntimeError.__init__" [.type "RuntimeError", .type "Exception", .type "BaseException", .type "object"]
  g10 : mg "InsideItself" = some (.ref (c.CA 10))
  t11 : ExT P K mg (c.CA 11) (c.fA 11) (Str.ofString "person") "RuntimeError" "RuntimeError.__new__" "RuntimeError.__init__" [.type "RuntimeError", .type "Exception", .type "BaseException", .type "object"]
  g11 : mg "DoorBusy" = some (.ref (c.CA 11))
  t12 : ExT P K mg (c.CA 12) (c.fA 12) (Str.ofString "person") "RuntimeError" "RuntimeError.__new__" "RuntimeError.__init__" [.type "RuntimeError", .type "Exception", .type "BaseException", .type "object"]
  g12 : mg "Walking" = some (.ref (c.CA 12))
  t13 : ExT P K mg (c.CA 13) (c.fA 13) (Str.ofString "room") "RuntimeError" "RuntimeError.__new__" "RuntimeError.__init__" [.type "RuntimeError", .type "Exception", .type "BaseException", .type "object"]
  g13 : mg "NotNextDoor" = some (.ref (c.CA 13))
  t14 : ExT P K mg (c.CA 14) (c.fA 14) (Str.ofString "name") "RuntimeError" "RuntimeError.__new__" "RuntimeError.__init__" [.type "RuntimeError", .type "Exception", .type "BaseException", .type "object"]
  g14 : mg "NeverReached" = some (.ref (c.CA 14))
  t15 : ExT P K mg (c.CA 15) (c.fA 15) (Str.ofString "room") "RuntimeError" "RuntimeError.__new__" "RuntimeError.__init__" [.type "RuntimeError", .type "Exception", .type "BaseException", .type "object"]
  g15 : mg "StandsStill" = some (.ref (c.CA 15))
  t16 : ExT P K mg (c.CA 16) (c.fA 16) (Str.ofString "limit") "RuntimeError" "RuntimeError.__new__" "RuntimeError.__init__" [.type "RuntimeError", .type "Exception", .type "BaseException", .type "object"]
  g16 : mg "TooMany" = some (.ref (c.CA 16))
  t17 : ExT P K mg (c.CA 17) (c.fA 17) (Str.ofString "limit") "RuntimeError" "RuntimeError.__new__" "RuntimeError.__init__" [.type "RuntimeError", .type "Exception", .type "BaseException", .type "object"]
  g17 : mg "TooLong" = some (.ref (c.CA 17))
  t18 : ExT P K mg (c.CA 18) (c.fA 18) (Str.ofString "limit") "RuntimeError" "RuntimeError.__new__" "RuntimeError.__init__" [.type "RuntimeError", .type "Exception", .type "BaseException", .type "object"]
  g18 : mg "Full" = some (.ref (c.CA 18))
  t19 : ExT P K mg (c.CA 19) (c.fA 19) (Str.ofString "person") "RuntimeError" "RuntimeError.__new__" "RuntimeError.__init__" [.type "RuntimeError", .type "Exception", .type "BaseException", .type "object"]
  g19 : mg "Apart" = some (.ref (c.CA 19))
  t20 : ExT P K mg (c.CA 20) (c.fA 20) (Str.ofString "names") "RuntimeError" "RuntimeError.__new__" "RuntimeError.__init__" [.type "RuntimeError", .type "Exception", .type "BaseException", .type "object"]
  g20 : mg "Silent" = some (.ref (c.CA 20))
  t21 : ExT P K mg (c.CA 21) (c.fA 21) (Str.ofString "reason") "RuntimeError" "RuntimeError.__new__" "RuntimeError.__init__" [.type "RuntimeError", .type "Exception", .type "BaseException", .type "object"]
  g21 : mg "NeverTogether" = some (.ref (c.CA 21))
  t22 : ExT P K mg (c.CA 22) (c.fA 22) (Str.ofString "person") "RuntimeError" "RuntimeError.__new__" "RuntimeError.__init__" [.type "RuntimeError", .type "Exception", .type "BaseException", .type "object"]
  g22 : mg "TooLate" = some (.ref (c.CA 22))
  t23 : ExT P K mg (c.CA 23) (c.fA 23) (Str.ofString "room") "LookupError" "LookupError.__new__" "LookupError.__init__" [.type "LookupError", .type "Exception", .type "BaseException", .type "object"]
  g23 : mg "NoRoom" = some (.ref (c.CA 23))
  t24 : ExT P K mg (c.CA 24) (c.fA 24) (Str.ofString "person") "LookupError" "LookupError.__new__" "LookupError.__init__" [.type "LookupError", .type "Exception", .type "BaseException", .type "object"]
  g24 : mg "NoPerson" = some (.ref (c.CA 24))
  t25 : ExT P K mg (c.CA 25) (c.fA 25) (Str.ofString "name") "LookupError" "LookupError.__new__" "LookupError.__init__" [.type "LookupError", .type "Exception", .type "BaseException", .type "object"]
  g25 : mg "NoBell" = some (.ref (c.CA 25))
  t26 : ExT P K mg (c.CA 26) (c.fA 26) (Str.ofString "name") "LookupError" "LookupError.__new__" "LookupError.__init__" [.type "LookupError", .type "Exception", .type "BaseException", .type "object"]
  g26 : mg "NoAlarm" = some (.ref (c.CA 26))
  t27 : ExT P K mg (c.CA 27) (c.fA 27) (Str.ofString "name") "LookupError" "LookupError.__new__" "LookupError.__init__" [.type "LookupError", .type "Exception", .type "BaseException", .type "object"]
  g27 : mg "NoTimekeeper" = some (.ref (c.CA 27))
  t28 : ExT P K mg (c.CA 28) (c.fA 28) (Str.ofString "reading") "LookupError" "LookupError.__new__" "LookupError.__init__" [.type "LookupError", .type "Exception", .type "BaseException", .type "object"]
  g28 : mg "NeverShown" = some (.ref (c.CA 28))
  gP : mg "PaceError" = some (.ref (c.FA 0))
  gS : mg "StateError" = some (.ref (c.FA 1))
  gM : mg "MissingError" = some (.ref (c.FA 2))
  sup : mg "super" = none
  isi : mg "isinstance" = none

/-- the k-th error stands at a; what it tells is x -/
def Exk (c : Adr) (H : Hp) (k : Nat) (a : Addr) (x : V) : Prop := ∃ dx, H a = some (exv a (c.CA k) dx) ∧ H dx = some (.xd [(FN k, x)])
inductive Grp (c : Adr) (H : Hp) (x : V) : Nat → List V → Prop
  | nil (s : Nat) : Grp c H x s []
  | cons {s : Nat} {a : Addr} {xs : List V} : Exk c H s a x → Grp c H x (s + 1) xs → Grp c H x s (.ref a :: xs)
/-- what _law_made returns stands at r -/
def MadeAt (c : Adr) (H : Hp) (r : Addr) (x : V) : Prop := ∃ (m1 m2 m3 : Addr) (x1 x2 x3 : List V), H r = some (.lst [.ref m1, .ref m2, .ref m3]) ∧ H m1 = some (.lst x1) ∧ H m2 = some (.lst x2) ∧ H m3 = some (.lst x3) ∧ Grp c H x 0 x1 ∧ Grp c H x 8 x2 ∧ Grp c H x 23 x3 ∧ x1.length = 8 ∧ x2.length = 15 ∧ x3.length = 6
def spMade (K : PySem.W.Frag) (c : Adr) : Sp := fun vs H Q _ => ∃ x d, vs = [x] ∧ Dp K H x d ∧ Fit d ∧ ∀ r H', Same H H' → MadeAt c H' r x → Q (.ref r) H'
section
variable {P : Program} {w : World} {K : PySem.W.Frag} {mg : Str → Option Value} {base : Heap} {c : Adr}
theorem scMa : FnScope ["what", "first", "second", "third"] ["what"] (defScope sMade) := ⟨rfl, rfl, rfl, by decide +kernel, rfl, by decide +kernel, by decide +kernel⟩
set_option maxHeartbeats 40000000 in
theorem ok_made {f : Addr} {fd : FuncData} (F : Fun K "_law_made" "_law_made" sMade f fd) (T : TxtC P K mg c) : FnG P w K mg base 3 f fd ["what"] (spMade K c) := by
  refine okG F scMa (fun vs H Q E h => ?_) (fun cdv A outer s H vs Q E hr hgd h => ?_)
  · obtain ⟨x, d, rfl, _⟩ := h
    rfl
  · obtain ⟨x, d, rfl, hd, hf, fin⟩ := h
    refine ⟨_, pss_cons (ps_set (i := 1) scMa.nd rfl (Or.inl rfl) (pe_lst (pa_cons (pe_mkx base_VE T.t0 fn_thing hr hgd rfl rfl T.g0 T.sup (pa_cons (pv 0) pa_nil)) (pa_cons (pe_mkx base_VE T.t1 fn_name hr hgd rfl rfl T.g1 T.sup (pa_cons (pv 0) pa_nil)) (pa_cons (pe_mkx base_VE T.t2 fn_pace hr hgd rfl rfl T.g2 T.sup (pa_cons (pv 0) pa_nil)) (pa_cons (pe_mkx base_VE T.t3 fn_amount hr hgd rfl rfl T.g3 T.sup (pa_cons (pv 0) pa_nil)) (pa_cons (pe_mkx base_VE T.t4 fn_reading hr hgd rfl rfl T.g4 T.sup (pa_cons (pv 0) pa_nil)) pa_nil)))))))
      (pss_cons (ps_set (i := 1) scMa.nd rfl (Or.inl rfl) (pe_op op_cat (pv 1) (pe_lst (pa_cons (pe_mkx base_VE T.t5 fn_count hr hgd rfl rfl T.g5 T.sup (pa_cons (pv 0) pa_nil)) (pa_cons (pe_mkx base_VE T.t6 fn_index hr hgd rfl rfl T.g6 T.sup (pa_cons (pv 0) pa_nil)) (pa_cons (pe_mkx base_VE T.t7 fn_line hr hgd rfl rfl T.g7 T.sup (pa_cons (pv 0) pa_nil)) pa_nil))))))
      (pss_cons (ps_set (i := 2) scMa.nd rfl (Or.inl rfl) (pe_lst (pa_cons (pe_mkx base_RE T.t8 fn_name hr hgd rfl rfl T.g8 T.sup (pa_cons (pv 0) pa_nil)) (pa_cons (pe_mkx base_RE T.t9 fn_room hr hgd rfl rfl T.g9 T.sup (pa_cons (pv 0) pa_nil)) (pa_cons (pe_mkx base_RE T.t10 fn_room hr hgd rfl rfl T.g10 T.sup (pa_cons (pv 0) pa_nil)) (pa_cons (pe_mkx base_RE T.t11 fn_person hr hgd rfl rfl T.g11 T.sup (pa_cons (pv 0) pa_nil)) (pa_cons (pe_mkx base_RE T.t12 fn_person hr hgd rfl rfl T.g12 T.sup (pa_cons (pv 0) pa_nil)) pa_nil)))))))
      (pss_cons (ps_set (i := 2) scMa.nd rfl (Or.inl rfl) (pe_op op_cat (pv 2) (pe_lst (pa_cons (pe_mkx base_RE T.t13 fn_room hr hgd rfl rfl T.g13 T.sup (pa_cons (pv 0) pa_nil)) (pa_cons (pe_mkx base_RE T.t14 fn_name hr hgd rfl rfl T.g14 T.sup (pa_cons (pv 0) pa_nil)) (pa_cons (pe_mkx base_RE T.t15 fn_room hr hgd rfl rfl T.g15 T.sup (pa_cons (pv 0) pa_nil)) (pa_cons (pe_mkx base_RE T.t16 fn_limit hr hgd rfl rfl T.g16 T.sup (pa_cons (pv 0) pa_nil)) (pa_cons (pe_mkx base_RE T.t17 fn_limit hr hgd rfl rfl T.g17 T.sup (pa_cons (pv 0) pa_nil)) pa_nil))))))))
      (pss_cons (ps_set (i := 2) scMa.nd rfl (Or.inl rfl) (pe_op op_cat (pv 2) (pe_lst (pa_cons (pe_mkx base_RE T.t18 fn_limit hr hgd rfl rfl T.g18 T.sup (pa_cons (pv 0) pa_nil)) (pa_cons (pe_mkx base_RE T.t19 fn_person hr hgd rfl rfl T.g19 T.sup (pa_cons (pv 0) pa_nil)) (pa_cons (pe_mkx base_RE T.t20 fn_names hr hgd rfl rfl T.g20 T.sup (pa_cons (pv 0) pa_nil)) (pa_cons (pe_mkx base_RE T.t21 fn_reason hr hgd rfl rfl T.g21 T.sup (pa_cons (pv 0) pa_nil)) (pa_cons (pe_mkx base_RE T.t22 fn_person hr hgd rfl rfl T.g22 T.sup (pa_cons (pv 0) pa_nil)) pa_nil))))))))
      (pss_cons (ps_set (i := 3) scMa.nd rfl (Or.inl rfl) (pe_lst (pa_cons (pe_mkx base_LE T.t23 fn_room hr hgd rfl rfl T.g23 T.sup (pa_cons (pv 0) pa_nil)) (pa_cons (pe_mkx base_LE T.t24 fn_person hr hgd rfl rfl T.g24 T.sup (pa_cons (pv 0) pa_nil)) (pa_cons (pe_mkx base_LE T.t25 fn_name hr hgd rfl rfl T.g25 T.sup (pa_cons (pv 0) pa_nil)) (pa_cons (pe_mkx base_LE T.t26 fn_name hr hgd rfl rfl T.g26 T.sup (pa_cons (pv 0) pa_nil)) (pa_cons (pe_mkx base_LE T.t27 fn_name hr hgd rfl rfl T.g27 T.sup (pa_cons (pv 0) pa_nil)) (pa_cons (pe_mkx base_LE T.t28 fn_reading hr hgd rfl rfl T.g28 T.sup (pa_cons (pv 0) pa_nil)) pa_nil))))))))
      (pss_one (ps_ret (pe_lst (pa_cons (pv 1) (pa_cons (pv 2) (pa_cons (pv 3) pa_nil))))))))))), ?_⟩
    generalize hH : H = H0 at hd fin ⊢
    clear hH
    have S0 : Same H0 H0 := same_rf _
    refine ⟨_, rfl, x, d, rfl, dp_same S0 hd, hf, fun a0 dx0 n1 n2 ne => ?_⟩
    generalize hG : upd (upd H0 dx0 _) a0 _ = H1
    obtain ⟨s1, e0, g0⟩ := mk_of n1 n2 ne hG
    clear hG n1 n2 ne
    have S1 := same_tr S0 s1
    refine ⟨_, rfl, x, d, rfl, dp_same S1 hd, hf, fun a1 dx1 n1 n2 ne => ?_⟩
    generalize hG : upd (upd H1 dx1 _) a1 _ = H2
    obtain ⟨s2, e1, g1⟩ := mk_of n1 n2 ne hG
    clear hG n1 n2 ne
    have S2 := same_tr S1 s2
    refine ⟨_, rfl, x, d, rfl, dp_same S2 hd, hf, fun a2 dx2 n1 n2 ne => ?_⟩
    generalize hG : upd (upd H2 dx2 _) a2 _ = H3
    obtain ⟨s3, e2, g2⟩ := mk_of n1 n2 ne hG
    clear hG n1 n2 ne
    have S3 := same_tr S2 s3
    refine ⟨_, rfl, x, d, rfl, dp_same S3 hd, hf, fun a3 dx3 n1 n2 ne => ?_⟩
    generalize hG : upd (upd H3 dx3 _) a3 _ = H4
    obtain ⟨s4, e3, g3⟩ := mk_of n1 n2 ne hG
    clear hG n1 n2 ne
    have S4 := same_tr S3 s4
    refine ⟨_, rfl, x, d, rfl, dp_same S4 hd, hf, fun a4 dx4 n1 n2 ne => ?_⟩
    generalize hG : upd (upd H4 dx4 _) a4 _ = H5
    obtain ⟨s5, e4, g4⟩ := mk_of n1 n2 ne hG
    clear hG n1 n2 ne
    have S5 := same_tr S4 s5
    refine ⟨by rw [sizeLine_eq]; show 5 ≤ 16777216; decide, fun l1 nn => ?_⟩
    generalize hG : upd H5 l1 _ = H6
    obtain ⟨s6, z6⟩ := same_of nn hG
    clear hG nn
    have S6 := same_tr S5 s6
    refine ⟨_, rfl, ?_⟩
    refine ⟨_, rfl, x, d, rfl, dp_same S6 hd, hf, fun a5 dx5 n1 n2 ne => ?_⟩
    generalize hG : upd (upd H6 dx5 _) a5 _ = H7
    obtain ⟨s7, e5, g5⟩ := mk_of n1 n2 ne hG
    clear hG n1 n2 ne
    have S7 := same_tr S6 s7
    refine ⟨_, rfl, x, d, rfl, dp_same S7 hd, hf, fun a6 dx6 n1 n2 ne => ?_⟩
    generalize hG : upd (upd H7 dx6 _) a6 _ = H8
    obtain ⟨s8, e6, g6⟩ := mk_of n1 n2 ne hG
    clear hG n1 n2 ne
    have S8 := same_tr S7 s8
    refine ⟨_, rfl, x, d, rfl, dp_same S8 hd, hf, fun a7 dx7 n1 n2 ne => ?_⟩
    generalize hG : upd (upd H8 dx7 _) a7 _ = H9
    obtain ⟨s9, e7, g7⟩ := mk_of n1 n2 ne hG
    clear hG n1 n2 ne
    have S9 := same_tr S8 s9
    refine ⟨by rw [sizeLine_eq]; show 3 ≤ 16777216; decide, fun l2 nn => ?_⟩
    generalize hG : upd H9 l2 _ = H10
    obtain ⟨s10, z10⟩ := same_of nn hG
    clear hG nn
    have S10 := same_tr S9 s10
    refine ⟨l1, l2, _, _, rfl, rfl, (same_tr s7 (same_tr s8 (same_tr s9 s10))) _ _ z6, z10, by rw [sizeLine_eq]; show 8 ≤ 16777216; decide, fun m1 nn => ?_⟩
    generalize hG : upd H10 m1 _ = H11
    obtain ⟨s11, z11⟩ := same_of nn hG
    clear hG nn
    have S11 := same_tr S10 s11
    refine ⟨_, rfl, x, d, rfl, dp_same S11 hd, hf, fun a8 dx8 n1 n2 ne => ?_⟩
    generalize hG : upd (upd H11 dx8 _) a8 _ = H12
    obtain ⟨s12, e8, g8⟩ := mk_of n1 n2 ne hG
    clear hG n1 n2 ne
    have S12 := same_tr S11 s12
    refine ⟨_, rfl, x, d, rfl, dp_same S12 hd, hf, fun a9 dx9 n1 n2 ne => ?_⟩
    generalize hG : upd (upd H12 dx9 _) a9 _ = H13
    obtain ⟨s13, e9, g9⟩ := mk_of n1 n2 ne hG
    clear hG n1 n2 ne
    have S13 := same_tr S12 s13
    refine ⟨_, rfl, x, d, rfl, dp_same S13 hd, hf, fun a10 dx10 n1 n2 ne => ?_⟩
    generalize hG : upd (upd H13 dx10 _) a10 _ = H14
    obtain ⟨s14, e10, g10⟩ := mk_of n1 n2 ne hG
    clear hG n1 n2 ne
    have S14 := same_tr S13 s14
    refine ⟨_, rfl, x, d, rfl, dp_same S14 hd, hf, fun a11 dx11 n1 n2 ne => ?_⟩
    generalize hG : upd (upd H14 dx11 _) a11 _ = H15
    obtain ⟨s15, e11, g11⟩ := mk_of n1 n2 ne hG
    clear hG n1 n2 ne
    have S15 := same_tr S14 s15
    refine ⟨_, rfl, x, d, rfl, dp_same S15 hd, hf, fun a12 dx12 n1 n2 ne => ?_⟩
    generalize hG : upd (upd H15 dx12 _) a12 _ = H16
    obtain ⟨s16, e12, g12⟩ := mk_of n1 n2 ne hG
    clear hG n1 n2 ne
    have S16 := same_tr S15 s16
    refine ⟨by rw [sizeLine_eq]; show 5 ≤ 16777216; decide, fun l3 nn => ?_⟩
    generalize hG : upd H16 l3 _ = H17
    obtain ⟨s17, z17⟩ := same_of nn hG
    clear hG nn
    have S17 := same_tr S16 s17
    refine ⟨_, rfl, ?_⟩
    refine ⟨_, rfl, x, d, rfl, dp_same S17 hd, hf, fun a13 dx13 n1 n2 ne => ?_⟩
    generalize hG : upd (upd H17 dx13 _) a13 _ = H18
    obtain ⟨s18, e13, g13⟩ := mk_of n1 n2 ne hG
    clear hG n1 n2 ne
    have S18 := same_tr S17 s18
    refine ⟨_, rfl, x, d, rfl, dp_same S18 hd, hf, fun a14 dx14 n1 n2 ne => ?_⟩
    generalize hG : upd (upd H18 dx14 _) a14 _ = H19
    obtain ⟨s19, e14, g14⟩ := mk_of n1 n2 ne hG
    clear hG n1 n2 ne
    have S19 := same_tr S18 s19
    refine ⟨_, rfl, x, d, rfl, dp_same S19 hd, hf, fun a15 dx15 n1 n2 ne => ?_⟩
    generalize hG : upd (upd H19 dx15 _) a15 _ = H20
    obtain ⟨s20, e15, g15⟩ := mk_of n1 n2 ne hG
    clear hG n1 n2 ne
    have S20 := same_tr S19 s20
    refine ⟨_, rfl, x, d, rfl, dp_same S20 hd, hf, fun a16 dx16 n1 n2 ne => ?_⟩
    generalize hG : upd (upd H20 dx16 _) a16 _ = H21
    obtain ⟨s21, e16, g16⟩ := mk_of n1 n2 ne hG
    clear hG n1 n2 ne
    have S21 := same_tr S20 s21
    refine ⟨_, rfl, x, d, rfl, dp_same S21 hd, hf, fun a17 dx17 n1 n2 ne => ?_⟩
    generalize hG : upd (upd H21 dx17 _) a17 _ = H22
    obtain ⟨s22, e17, g17⟩ := mk_of n1 n2 ne hG
    clear hG n1 n2 ne
    have S22 := same_tr S21 s22
    refine ⟨by rw [sizeLine_eq]; show 5 ≤ 16777216; decide, fun l4 nn => ?_⟩
    generalize hG : upd H22 l4 _ = H23
    obtain ⟨s23, z23⟩ := same_of nn hG
    clear hG nn
    have S23 := same_tr S22 s23
    refine ⟨l3, l4, _, _, rfl, rfl, (same_tr s18 (same_tr s19 (same_tr s20 (same_tr s21 (same_tr s22 s23))))) _ _ z17, z23, by rw [sizeLine_eq]; show 10 ≤ 16777216; decide, fun m2 nn => ?_⟩
    generalize hG : upd H23 m2 _ = H24
    obtain ⟨s24, z24⟩ := same_of nn hG
    clear hG nn
    have S24 := same_tr S23 s24
    refine ⟨_, rfl, ?_⟩
    refine ⟨_, rfl, x, d, rfl, dp_same S24 hd, hf, fun a18 dx18 n1 n2 ne => ?_⟩
    generalize hG : upd (upd H24 dx18 _) a18 _ = H25
    obtain ⟨s25, e18, g18⟩ := mk_of n1 n2 ne hG
    clear hG n1 n2 ne
    have S25 := same_tr S24 s25
    refine ⟨_, rfl, x, d, rfl, dp_same S25 hd, hf, fun a19 dx19 n1 n2 ne => ?_⟩
    generalize hG : upd (upd H25 dx19 _) a19 _ = H26
    obtain ⟨s26, e19, g19⟩ := mk_of n1 n2 ne hG
    clear hG n1 n2 ne
    have S26 := same_tr S25 s26
    refine ⟨_, rfl, x, d, rfl, dp_same S26 hd, hf, fun a20 dx20 n1 n2 ne => ?_⟩
    generalize hG : upd (upd H26 dx20 _) a20 _ = H27
    obtain ⟨s27, e20, g20⟩ := mk_of n1 n2 ne hG
    clear hG n1 n2 ne
    have S27 := same_tr S26 s27
    refine ⟨_, rfl, x, d, rfl, dp_same S27 hd, hf, fun a21 dx21 n1 n2 ne => ?_⟩
    generalize hG : upd (upd H27 dx21 _) a21 _ = H28
    obtain ⟨s28, e21, g21⟩ := mk_of n1 n2 ne hG
    clear hG n1 n2 ne
    have S28 := same_tr S27 s28
    refine ⟨_, rfl, x, d, rfl, dp_same S28 hd, hf, fun a22 dx22 n1 n2 ne => ?_⟩
    generalize hG : upd (upd H28 dx22 _) a22 _ = H29
    obtain ⟨s29, e22, g22⟩ := mk_of n1 n2 ne hG
    clear hG n1 n2 ne
    have S29 := same_tr S28 s29
    refine ⟨by rw [sizeLine_eq]; show 5 ≤ 16777216; decide, fun l5 nn => ?_⟩
    generalize hG : upd H29 l5 _ = H30
    obtain ⟨s30, z30⟩ := same_of nn hG
    clear hG nn
    have S30 := same_tr S29 s30
    refine ⟨m2, l5, _, _, rfl, rfl, (same_tr s25 (same_tr s26 (same_tr s27 (same_tr s28 (same_tr s29 s30))))) _ _ z24, z30, by rw [sizeLine_eq]; show 15 ≤ 16777216; decide, fun m3 nn => ?_⟩
    generalize hG : upd H30 m3 _ = H31
    obtain ⟨s31, z31⟩ := same_of nn hG
    clear hG nn
    have S31 := same_tr S30 s31
    refine ⟨_, rfl, x, d, rfl, dp_same S31 hd, hf, fun a23 dx23 n1 n2 ne => ?_⟩
    generalize hG : upd (upd H31 dx23 _) a23 _ = H32
    obtain ⟨s32, e23, g23⟩ := mk_of n1 n2 ne hG
    clear hG n1 n2 ne
    have S32 := same_tr S31 s32
    refine ⟨_, rfl, x, d, rfl, dp_same S32 hd, hf, fun a24 dx24 n1 n2 ne => ?_⟩
    generalize hG : upd (upd H32 dx24 _) a24 _ = H33
    obtain ⟨s33, e24, g24⟩ := mk_of n1 n2 ne hG
    clear hG n1 n2 ne
    have S33 := same_tr S32 s33
    refine ⟨_, rfl, x, d, rfl, dp_same S33 hd, hf, fun a25 dx25 n1 n2 ne => ?_⟩
    generalize hG : upd (upd H33 dx25 _) a25 _ = H34
    obtain ⟨s34, e25, g25⟩ := mk_of n1 n2 ne hG
    clear hG n1 n2 ne
    have S34 := same_tr S33 s34
    refine ⟨_, rfl, x, d, rfl, dp_same S34 hd, hf, fun a26 dx26 n1 n2 ne => ?_⟩
    generalize hG : upd (upd H34 dx26 _) a26 _ = H35
    obtain ⟨s35, e26, g26⟩ := mk_of n1 n2 ne hG
    clear hG n1 n2 ne
    have S35 := same_tr S34 s35
    refine ⟨_, rfl, x, d, rfl, dp_same S35 hd, hf, fun a27 dx27 n1 n2 ne => ?_⟩
    generalize hG : upd (upd H35 dx27 _) a27 _ = H36
    obtain ⟨s36, e27, g27⟩ := mk_of n1 n2 ne hG
    clear hG n1 n2 ne
    have S36 := same_tr S35 s36
    refine ⟨_, rfl, x, d, rfl, dp_same S36 hd, hf, fun a28 dx28 n1 n2 ne => ?_⟩
    generalize hG : upd (upd H36 dx28 _) a28 _ = H37
    obtain ⟨s37, e28, g28⟩ := mk_of n1 n2 ne hG
    clear hG n1 n2 ne
    have S37 := same_tr S36 s37
    refine ⟨by rw [sizeLine_eq]; show 6 ≤ 16777216; decide, fun m4 nn => ?_⟩
    generalize hG : upd H37 m4 _ = H38
    obtain ⟨s38, z38⟩ := same_of nn hG
    clear hG nn
    have S38 := same_tr S37 s38
    refine ⟨_, rfl, _, rfl, _, rfl, ?_⟩
    refine ⟨by rw [sizeLine_eq]; show 3 ≤ 16777216; decide, fun r nn => ?_⟩
    generalize hG : upd H38 r _ = H39
    obtain ⟨s39, z39⟩ := same_of nn hG
    clear hG nn
    have S39 := same_tr S38 s39
    have S_1 : Same H1 H39 := (same_tr s2 (same_tr s3 (same_tr s4 (same_tr s5 (same_tr s6 (same_tr s7 (same_tr s8 (same_tr s9 (same_tr s10 (same_tr s11 (same_tr s12 (same_tr s13 (same_tr s14 (same_tr s15 (same_tr s16 (same_tr s17 (same_tr s18 (same_tr s19 (same_tr s20 (same_tr s21 (same_tr s22 (same_tr s23 (same_tr s24 (same_tr s25 (same_tr s26 (same_tr s27 (same_tr s28 (same_tr s29 (same_tr s30 (same_tr s31 (same_tr s32 (same_tr s33 (same_tr s34 (same_tr s35 (same_tr s36 (same_tr s37 (same_tr s38 s39)))))))))))))))))))))))))))))))))))))
    have S_2 : Same H2 H39 := (same_tr s3 (same_tr s4 (same_tr s5 (same_tr s6 (same_tr s7 (same_tr s8 (same_tr s9 (same_tr s10 (same_tr s11 (same_tr s12 (same_tr s13 (same_tr s14 (same_tr s15 (same_tr s16 (same_tr s17 (same_tr s18 (same_tr s19 (same_tr s20 (same_tr s21 (same_tr s22 (same_tr s23 (same_tr s24 (same_tr s25 (same_tr s26 (same_tr s27 (same_tr s28 (same_tr s29 (same_tr s30 (same_tr s31 (same_tr s32 (same_tr s33 (same_tr s34 (same_tr s35 (same_tr s36 (same_tr s37 (same_tr s38 s39))))))))))))))))))))))))))))))))))))
    have S_3 : Same H3 H39 := (same_tr s4 (same_tr s5 (same_tr s6 (same_tr s7 (same_tr s8 (same_tr s9 (same_tr s10 (same_tr s11 (same_tr s12 (same_tr s13 (same_tr s14 (same_tr s15 (same_tr s16 (same_tr s17 (same_tr s18 (same_tr s19 (same_tr s20 (same_tr s21 (same_tr s22 (same_tr s23 (same_tr s24 (same_tr s25 (same_tr s26 (same_tr s27 (same_tr s28 (same_tr s29 (same_tr s30 (same_tr s31 (same_tr s32 (same_tr s33 (same_tr s34 (same_tr s35 (same_tr s36 (same_tr s37 (same_tr s38 s39)))))))))))))))))))))))))))))))))))
    have S_4 : Same H4 H39 := (same_tr s5 (same_tr s6 (same_tr s7 (same_tr s8 (same_tr s9 (same_tr s10 (same_tr s11 (same_tr s12 (same_tr s13 (same_tr s14 (same_tr s15 (same_tr s16 (same_tr s17 (same_tr s18 (same_tr s19 (same_tr s20 (same_tr s21 (same_tr s22 (same_tr s23 (same_tr s24 (same_tr s25 (same_tr s26 (same_tr s27 (same_tr s28 (same_tr s29 (same_tr s30 (same_tr s31 (same_tr s32 (same_tr s33 (same_tr s34 (same_tr s35 (same_tr s36 (same_tr s37 (same_tr s38 s39))))))))))))))))))))))))))))))))))
    have S_5 : Same H5 H39 := (same_tr s6 (same_tr s7 (same_tr s8 (same_tr s9 (same_tr s10 (same_tr s11 (same_tr s12 (same_tr s13 (same_tr s14 (same_tr s15 (same_tr s16 (same_tr s17 (same_tr s18 (same_tr s19 (same_tr s20 (same_tr s21 (same_tr s22 (same_tr s23 (same_tr s24 (same_tr s25 (same_tr s26 (same_tr s27 (same_tr s28 (same_tr s29 (same_tr s30 (same_tr s31 (same_tr s32 (same_tr s33 (same_tr s34 (same_tr s35 (same_tr s36 (same_tr s37 (same_tr s38 s39)))))))))))))))))))))))))))))))))
    have S_7 : Same H7 H39 := (same_tr s8 (same_tr s9 (same_tr s10 (same_tr s11 (same_tr s12 (same_tr s13 (same_tr s14 (same_tr s15 (same_tr s16 (same_tr s17 (same_tr s18 (same_tr s19 (same_tr s20 (same_tr s21 (same_tr s22 (same_tr s23 (same_tr s24 (same_tr s25 (same_tr s26 (same_tr s27 (same_tr s28 (same_tr s29 (same_tr s30 (same_tr s31 (same_tr s32 (same_tr s33 (same_tr s34 (same_tr s35 (same_tr s36 (same_tr s37 (same_tr s38 s39)))))))))))))))))))))))))))))))
    have S_8 : Same H8 H39 := (same_tr s9 (same_tr s10 (same_tr s11 (same_tr s12 (same_tr s13 (same_tr s14 (same_tr s15 (same_tr s16 (same_tr s17 (same_tr s18 (same_tr s19 (same_tr s20 (same_tr s21 (same_tr s22 (same_tr s23 (same_tr s24 (same_tr s25 (same_tr s26 (same_tr s27 (same_tr s28 (same_tr s29 (same_tr s30 (same_tr s31 (same_tr s32 (same_tr s33 (same_tr s34 (same_tr s35 (same_tr s36 (same_tr s37 (same_tr s38 s39))))))))))))))))))))))))))))))
    have S_9 : Same H9 H39 := (same_tr s10 (same_tr s11 (same_tr s12 (same_tr s13 (same_tr s14 (same_tr s15 (same_tr s16 (same_tr s17 (same_tr s18 (same_tr s19 (same_tr s20 (same_tr s21 (same_tr s22 (same_tr s23 (same_tr s24 (same_tr s25 (same_tr s26 (same_tr s27 (same_tr s28 (same_tr s29 (same_tr s30 (same_tr s31 (same_tr s32 (same_tr s33 (same_tr s34 (same_tr s35 (same_tr s36 (same_tr s37 (same_tr s38 s39)))))))))))))))))))))))))))))
    have S_11 : Same H11 H39 := (same_tr s12 (same_tr s13 (same_tr s14 (same_tr s15 (same_tr s16 (same_tr s17 (same_tr s18 (same_tr s19 (same_tr s20 (same_tr s21 (same_tr s22 (same_tr s23 (same_tr s24 (same_tr s25 (same_tr s26 (same_tr s27 (same_tr s28 (same_tr s29 (same_tr s30 (same_tr s31 (same_tr s32 (same_tr s33 (same_tr s34 (same_tr s35 (same_tr s36 (same_tr s37 (same_tr s38 s39)))))))))))))))))))))))))))
    have S_12 : Same H12 H39 := (same_tr s13 (same_tr s14 (same_tr s15 (same_tr s16 (same_tr s17 (same_tr s18 (same_tr s19 (same_tr s20 (same_tr s21 (same_tr s22 (same_tr s23 (same_tr s24 (same_tr s25 (same_tr s26 (same_tr s27 (same_tr s28 (same_tr s29 (same_tr s30 (same_tr s31 (same_tr s32 (same_tr s33 (same_tr s34 (same_tr s35 (same_tr s36 (same_tr s37 (same_tr s38 s39))))))))))))))))))))))))))
    have S_13 : Same H13 H39 := (same_tr s14 (same_tr s15 (same_tr s16 (same_tr s17 (same_tr s18 (same_tr s19 (same_tr s20 (same_tr s21 (same_tr s22 (same_tr s23 (same_tr s24 (same_tr s25 (same_tr s26 (same_tr s27 (same_tr s28 (same_tr s29 (same_tr s30 (same_tr s31 (same_tr s32 (same_tr s33 (same_tr s34 (same_tr s35 (same_tr s36 (same_tr s37 (same_tr s38 s39)))))))))))))))))))))))))
    have S_14 : Same H14 H39 := (same_tr s15 (same_tr s16 (same_tr s17 (same_tr s18 (same_tr s19 (same_tr s20 (same_tr s21 (same_tr s22 (same_tr s23 (same_tr s24 (same_tr s25 (same_tr s26 (same_tr s27 (same_tr s28 (same_tr s29 (same_tr s30 (same_tr s31 (same_tr s32 (same_tr s33 (same_tr s34 (same_tr s35 (same_tr s36 (same_tr s37 (same_tr s38 s39))))))))))))))))))))))))
    have S_15 : Same H15 H39 := (same_tr s16 (same_tr s17 (same_tr s18 (same_tr s19 (same_tr s20 (same_tr s21 (same_tr s22 (same_tr s23 (same_tr s24 (same_tr s25 (same_tr s26 (same_tr s27 (same_tr s28 (same_tr s29 (same_tr s30 (same_tr s31 (same_tr s32 (same_tr s33 (same_tr s34 (same_tr s35 (same_tr s36 (same_tr s37 (same_tr s38 s39)))))))))))))))))))))))
    have S_16 : Same H16 H39 := (same_tr s17 (same_tr s18 (same_tr s19 (same_tr s20 (same_tr s21 (same_tr s22 (same_tr s23 (same_tr s24 (same_tr s25 (same_tr s26 (same_tr s27 (same_tr s28 (same_tr s29 (same_tr s30 (same_tr s31 (same_tr s32 (same_tr s33 (same_tr s34 (same_tr s35 (same_tr s36 (same_tr s37 (same_tr s38 s39))))))))))))))))))))))
    have S_18 : Same H18 H39 := (same_tr s19 (same_tr s20 (same_tr s21 (same_tr s22 (same_tr s23 (same_tr s24 (same_tr s25 (same_tr s26 (same_tr s27 (same_tr s28 (same_tr s29 (same_tr s30 (same_tr s31 (same_tr s32 (same_tr s33 (same_tr s34 (same_tr s35 (same_tr s36 (same_tr s37 (same_tr s38 s39))))))))))))))))))))
    have S_19 : Same H19 H39 := (same_tr s20 (same_tr s21 (same_tr s22 (same_tr s23 (same_tr s24 (same_tr s25 (same_tr s26 (same_tr s27 (same_tr s28 (same_tr s29 (same_tr s30 (same_tr s31 (same_tr s32 (same_tr s33 (same_tr s34 (same_tr s35 (same_tr s36 (same_tr s37 (same_tr s38 s39)))))))))))))))))))
    have S_20 : Same H20 H39 := (same_tr s21 (same_tr s22 (same_tr s23 (same_tr s24 (same_tr s25 (same_tr s26 (same_tr s27 (same_tr s28 (same_tr s29 (same_tr s30 (same_tr s31 (same_tr s32 (same_tr s33 (same_tr s34 (same_tr s35 (same_tr s36 (same_tr s37 (same_tr s38 s39))))))))))))))))))
    have S_21 : Same H21 H39 := (same_tr s22 (same_tr s23 (same_tr s24 (same_tr s25 (same_tr s26 (same_tr s27 (same_tr s28 (same_tr s29 (same_tr s30 (same_tr s31 (same_tr s32 (same_tr s33 (same_tr s34 (same_tr s35 (same_tr s36 (same_tr s37 (same_tr s38 s39)))))))))))))))))
    have S_22 : Same H22 H39 := (same_tr s23 (same_tr s24 (same_tr s25 (same_tr s26 (same_tr s27 (same_tr s28 (same_tr s29 (same_tr s30 (same_tr s31 (same_tr s32 (same_tr s33 (same_tr s34 (same_tr s35 (same_tr s36 (same_tr s37 (same_tr s38 s39))))))))))))))))
    have S_25 : Same H25 H39 := (same_tr s26 (same_tr s27 (same_tr s28 (same_tr s29 (same_tr s30 (same_tr s31 (same_tr s32 (same_tr s33 (same_tr s34 (same_tr s35 (same_tr s36 (same_tr s37 (same_tr s38 s39)))))))))))))
    have S_26 : Same H26 H39 := (same_tr s27 (same_tr s28 (same_tr s29 (same_tr s30 (same_tr s31 (same_tr s32 (same_tr s33 (same_tr s34 (same_tr s35 (same_tr s36 (same_tr s37 (same_tr s38 s39))))))))))))
    have S_27 : Same H27 H39 := (same_tr s28 (same_tr s29 (same_tr s30 (same_tr s31 (same_tr s32 (same_tr s33 (same_tr s34 (same_tr s35 (same_tr s36 (same_tr s37 (same_tr s38 s39)))))))))))
    have S_28 : Same H28 H39 := (same_tr s29 (same_tr s30 (same_tr s31 (same_tr s32 (same_tr s33 (same_tr s34 (same_tr s35 (same_tr s36 (same_tr s37 (same_tr s38 s39))))))))))
    have S_29 : Same H29 H39 := (same_tr s30 (same_tr s31 (same_tr s32 (same_tr s33 (same_tr s34 (same_tr s35 (same_tr s36 (same_tr s37 (same_tr s38 s39)))))))))
    have S_31 : Same H31 H39 := (same_tr s32 (same_tr s33 (same_tr s34 (same_tr s35 (same_tr s36 (same_tr s37 (same_tr s38 s39)))))))
    have S_32 : Same H32 H39 := (same_tr s33 (same_tr s34 (same_tr s35 (same_tr s36 (same_tr s37 (same_tr s38 s39))))))
    have S_33 : Same H33 H39 := (same_tr s34 (same_tr s35 (same_tr s36 (same_tr s37 (same_tr s38 s39)))))
    have S_34 : Same H34 H39 := (same_tr s35 (same_tr s36 (same_tr s37 (same_tr s38 s39))))
    have S_35 : Same H35 H39 := (same_tr s36 (same_tr s37 (same_tr s38 s39)))
    have S_36 : Same H36 H39 := (same_tr s37 (same_tr s38 s39))
    have S_37 : Same H37 H39 := (same_tr s38 s39)
    have S_38 : Same H38 H39 := s39
    exact fin r H39 S39 ⟨m1, m3, m4, _, _, _, z39, S_11 _ _ z11, S_31 _ _ z31, S_38 _ _ z38, (.cons ⟨dx0, S_1 _ _ e0, S_1 _ _ g0⟩ (.cons ⟨dx1, S_2 _ _ e1, S_2 _ _ g1⟩ (.cons ⟨dx2, S_3 _ _ e2, S_3 _ _ g2⟩ (.cons ⟨dx3, S_4 _ _ e3, S_4 _ _ g3⟩ (.cons ⟨dx4, S_5 _ _ e4, S_5 _ _ g4⟩ (.cons ⟨dx5, S_7 _ _ e5, S_7 _ _ g5⟩ (.cons ⟨dx6, S_8 _ _ e6, S_8 _ _ g6⟩ (.cons ⟨dx7, S_9 _ _ e7, S_9 _ _ g7⟩ (.nil _))))))))), (.cons ⟨dx8, S_12 _ _ e8, S_12 _ _ g8⟩ (.cons ⟨dx9, S_13 _ _ e9, S_13 _ _ g9⟩ (.cons ⟨dx10, S_14 _ _ e10, S_14 _ _ g10⟩ (.cons ⟨dx11, S_15 _ _ e11, S_15 _ _ g11⟩ (.cons ⟨dx12, S_16 _ _ e12, S_16 _ _ g12⟩ (.cons ⟨dx13, S_18 _ _ e13, S_18 _ _ g13⟩ (.cons ⟨dx14, S_19 _ _ e14, S_19 _ _ g14⟩ (.cons ⟨dx15, S_20 _ _ e15, S_20 _ _ g15⟩ (.cons ⟨dx16, S_21 _ _ e16, S_21 _ _ g16⟩ (.cons ⟨dx17, S_22 _ _ e17, S_22 _ _ g17⟩ (.cons ⟨dx18, S_25 _ _ e18, S_25 _ _ g18⟩ (.cons ⟨dx19, S_26 _ _ e19, S_26 _ _ g19⟩ (.cons ⟨dx20, S_27 _ _ e20, S_27 _ _ g20⟩ (.cons ⟨dx21, S_28 _ _ e21, S_28 _ _ g21⟩ (.cons ⟨dx22, S_29 _ _ e22, S_29 _ _ g22⟩ (.nil _)))))))))))))))), (.cons ⟨dx23, S_32 _ _ e23, S_32 _ _ g23⟩ (.cons ⟨dx24, S_33 _ _ e24, S_33 _ _ g24⟩ (.cons ⟨dx25, S_34 _ _ e25, S_34 _ _ g25⟩ (.cons ⟨dx26, S_35 _ _ e26, S_35 _ _ g26⟩ (.cons ⟨dx27, S_36 _ _ e27, S_36 _ _ g27⟩ (.cons ⟨dx28, S_37 _ _ e28, S_37 _ _ g28⟩ (.nil _))))))), rfl, rfl, rfl⟩
end
end K1
set_option Elab.async false
set_option linter.all false
set_option maxRecDepth 100000
set_option maxHeartbeats 4000000
set_option exponentiation.threshold 100000
namespace K1
open PySem PySem.Spec PyProof.Rows L2 RmX Rm
abbrev sKinds : Stmt := top 38
def fam (k : Nat) : Nat := if k < 8 then 0 else if k < 23 then 1 else 2
/-- what isinstance says of them -/
structure Kit (P : Program) (K : PySem.W.Frag) (mg : Str → Option Value) (c : Adr) : Prop where
  ext : ∀ k, k < 29 → ∃ (fI : Addr) (F : Str) (B n1 n2 : String) (bm : List Value), ExT P K mg (c.CA k) fI F B n1 n2 bm
  kit : ∀ k, k < 29 → ∀ j, j < 29 → PySem.W.kitOne K (.ref (c.CA k)) (.ref (c.CA j)) = some (decide (j = k))
  kfa : ∀ k, k < 29 → ∀ i, i < 3 → PySem.W.kitOne K (.ref (c.CA k)) (.ref (c.FA i)) = some (decide (i = fam k))
  kV : ∀ k, k < 29 → PySem.W.kitOne K (.ref (c.CA k)) (.type "ValueError") = some (decide (0 = fam k))
  kR : ∀ k, k < 29 → PySem.W.kitOne K (.ref (c.CA k)) (.type "RuntimeError") = some (decide (1 = fam k))
  kL : ∀ k, k < 29 → PySem.W.kitOne K (.ref (c.CA k)) (.type "LookupError") = some (decide (2 = fam k))
  kN : ∀ k, k < 29 → PySem.W.kitAny K (.ref (c.CA k)) [.type "KeyError", .type "IndexError", .type "NotImplementedError"] = some false
def kindsV (k : Nat) : List V := [V.bl (decide (0 = k)), V.bl (decide (1 = k)), V.bl (decide (2 = k)), V.bl (decide (3 = k)), V.bl (decide (4 = k)), V.bl (decide (5 = k)), V.bl (decide (6 = k)), V.bl (decide (7 = k)), V.bl (decide (8 = k)), V.bl (decide (9 = k)), V.bl (decide (10 = k)), V.bl (decide (11 = k)), V.bl (decide (12 = k)), V.bl (decide (13 = k)), V.bl (decide (14 = k)), V.bl (decide (15 = k)), V.bl (decide (16 = k)), V.bl (decide (17 = k)), V.bl (decide (18 = k)), V.bl (decide (19 = k)), V.bl (decide (20 = k)), V.bl (decide (21 = k)), V.bl (decide (22 = k)), V.bl (decide (23 = k)), V.bl (decide (24 = k)), V.bl (decide (25 = k)), V.bl (decide (26 = k)), V.bl (decide (27 = k)), V.bl (decide (28 = k))]
def spKinds (c : Adr) : Sp := fun vs H Q _ => ∃ (a : Addr) (k : Nat) (x : V), vs = [.ref a] ∧ k < 29 ∧ Exk c H k a x ∧ ∀ r H', Same H H' → H' r = some (.lst (kindsV k)) → Q (.ref r) H'
section
variable {P : Program} {w : World} {K : PySem.W.Frag} {mg : Str → Option Value} {base : Heap} {c : Adr}
theorem scKi : FnScope ["e", "found"] ["e"] (defScope sKinds) := ⟨rfl, rfl, rfl, by decide +kernel, rfl, by decide +kernel, by decide +kernel⟩
set_option maxHeartbeats 40000000 in
theorem ok_kinds {f : Addr} {fd : FuncData} (F : Fun K "_law_kinds" "_law_kinds" sKinds f fd) (T : TxtC P K mg c) (M : Kit P K mg c) : FnG P w K mg base 1 f fd ["e"] (spKinds c) := by
  refine okG F scKi (fun vs H Q E h => ?_) (fun cdv A outer s H vs Q E hr hgd h => ?_)
  · obtain ⟨a, k, x, rfl, _⟩ := h
    rfl
  · obtain ⟨a, k, x, rfl, hk, ⟨dx, e1, e2⟩, fin⟩ := h
    refine ⟨_, pss_cons (ps_set (i := 1) scKi.nd rfl (Or.inl rfl) (pe_lst (pa_cons (pe_callB call_isX (by rfl) T.isi (by decide +kernel) (pa_cons (pv 0) (pa_cons (pe_glob (v := .ref (c.CA 0)) rfl T.g0 rfl) pa_nil))) (pa_cons (pe_callB call_isX (by rfl) T.isi (by decide +kernel) (pa_cons (pv 0) (pa_cons (pe_glob (v := .ref (c.CA 1)) rfl T.g1 rfl) pa_nil))) (pa_cons (pe_callB call_isX (by rfl) T.isi (by decide +kernel) (pa_cons (pv 0) (pa_cons (pe_glob (v := .ref (c.CA 2)) rfl T.g2 rfl) pa_nil))) pa_nil)))))
      (pss_cons (ps_set (i := 1) scKi.nd rfl (Or.inl rfl) (pe_op op_cat (pv 1) (pe_lst (pa_cons (pe_callB call_isX (by rfl) T.isi (by decide +kernel) (pa_cons (pv 0) (pa_cons (pe_glob (v := .ref (c.CA 3)) rfl T.g3 rfl) pa_nil))) (pa_cons (pe_callB call_isX (by rfl) T.isi (by decide +kernel) (pa_cons (pv 0) (pa_cons (pe_glob (v := .ref (c.CA 4)) rfl T.g4 rfl) pa_nil))) (pa_cons (pe_callB call_isX (by rfl) T.isi (by decide +kernel) (pa_cons (pv 0) (pa_cons (pe_glob (v := .ref (c.CA 5)) rfl T.g5 rfl) pa_nil))) pa_nil))))))
      (pss_cons (ps_set (i := 1) scKi.nd rfl (Or.inl rfl) (pe_op op_cat (pv 1) (pe_lst (pa_cons (pe_callB call_isX (by rfl) T.isi (by decide +kernel) (pa_cons (pv 0) (pa_cons (pe_glob (v := .ref (c.CA 6)) rfl T.g6 rfl) pa_nil))) (pa_cons (pe_callB call_isX (by rfl) T.isi (by decide +kernel) (pa_cons (pv 0) (pa_cons (pe_glob (v := .ref (c.CA 7)) rfl T.g7 rfl) pa_nil))) (pa_cons (pe_callB call_isX (by rfl) T.isi (by decide +kernel) (pa_cons (pv 0) (pa_cons (pe_glob (v := .ref (c.CA 8)) rfl T.g8 rfl) pa_nil))) pa_nil))))))
      (pss_cons (ps_set (i := 1) scKi.nd rfl (Or.inl rfl) (pe_op op_cat (pv 1) (pe_lst (pa_cons (pe_callB call_isX (by rfl) T.isi (by decide +kernel) (pa_cons (pv 0) (pa_cons (pe_glob (v := .ref (c.CA 9)) rfl T.g9 rfl) pa_nil))) (pa_cons (pe_callB call_isX (by rfl) T.isi (by decide +kernel) (pa_cons (pv 0) (pa_cons (pe_glob (v := .ref (c.CA 10)) rfl T.g10 rfl) pa_nil))) (pa_cons (pe_callB call_isX (by rfl) T.isi (by decide +kernel) (pa_cons (pv 0) (pa_cons (pe_glob (v := .ref (c.CA 11)) rfl T.g11 rfl) pa_nil))) pa_nil))))))
      (pss_cons (ps_set (i := 1) scKi.nd rfl (Or.inl rfl) (pe_op op_cat (pv 1) (pe_lst (pa_cons (pe_callB call_isX (by rfl) T.isi (by decide +kernel) (pa_cons (pv 0) (pa_cons (pe_glob (v := .ref (c.CA 12)) rfl T.g12 rfl) pa_nil))) (pa_cons (pe_callB call_isX (by rfl) T.isi (by decide +kernel) (pa_cons (pv 0) (pa_cons (pe_glob (v := .ref (c.CA 13)) rfl T.g13 rfl) pa_nil))) (pa_cons (pe_callB call_isX (by rfl) T.isi (by decide +kernel) (pa_cons (pv 0) (pa_cons (pe_glob (v := .ref (c.CA 14)) rfl T.g14 rfl) pa_nil))) pa_nil))))))
      (pss_cons (ps_set (i := 1) scKi.nd rfl (Or.inl rfl) (pe_op op_cat (pv 1) (pe_lst (pa_cons (pe_callB call_isX (by rfl) T.isi (by decide +kernel) (pa_cons (pv 0) (pa_cons (pe_glob (v := .ref (c.CA 15)) rfl T.g15 rfl) pa_nil))) (pa_cons (pe_callB call_isX (by rfl) T.isi (by decide +kernel) (pa_cons (pv 0) (pa_cons (pe_glob (v := .ref (c.CA 16)) rfl T.g16 rfl) pa_nil))) (pa_cons (pe_callB call_isX (by rfl) T.isi (by decide +kernel) (pa_cons (pv 0) (pa_cons (pe_glob (v := .ref (c.CA 17)) rfl T.g17 rfl) pa_nil))) (pa_cons (pe_callB call_isX (by rfl) T.isi (by decide +kernel) (pa_cons (pv 0) (pa_cons (pe_glob (v := .ref (c.CA 18)) rfl T.g18 rfl) pa_nil))) pa_nil)))))))
      (pss_cons (ps_set (i := 1) scKi.nd rfl (Or.inl rfl) (pe_op op_cat (pv 1) (pe_lst (pa_cons (pe_callB call_isX (by rfl) T.isi (by decide +kernel) (pa_cons (pv 0) (pa_cons (pe_glob (v := .ref (c.CA 19)) rfl T.g19 rfl) pa_nil))) (pa_cons (pe_callB call_isX (by rfl) T.isi (by decide +kernel) (pa_cons (pv 0) (pa_cons (pe_glob (v := .ref (c.CA 20)) rfl T.g20 rfl) pa_nil))) (pa_cons (pe_callB call_isX (by rfl) T.isi (by decide +kernel) (pa_cons (pv 0) (pa_cons (pe_glob (v := .ref (c.CA 21)) rfl T.g21 rfl) pa_nil))) (pa_cons (pe_callB call_isX (by rfl) T.isi (by decide +kernel) (pa_cons (pv 0) (pa_cons (pe_glob (v := .ref (c.CA 22)) rfl T.g22 rfl) pa_nil))) pa_nil)))))))
      (pss_cons (ps_set (i := 1) scKi.nd rfl (Or.inl rfl) (pe_op op_cat (pv 1) (pe_lst (pa_cons (pe_callB call_isX (by rfl) T.isi (by decide +kernel) (pa_cons (pv 0) (pa_cons (pe_glob (v := .ref (c.CA 23)) rfl T.g23 rfl) pa_nil))) (pa_cons (pe_callB call_isX (by rfl) T.isi (by decide +kernel) (pa_cons (pv 0) (pa_cons (pe_glob (v := .ref (c.CA 24)) rfl T.g24 rfl) pa_nil))) (pa_cons (pe_callB call_isX (by rfl) T.isi (by decide +kernel) (pa_cons (pv 0) (pa_cons (pe_glob (v := .ref (c.CA 25)) rfl T.g25 rfl) pa_nil))) (pa_cons (pe_callB call_isX (by rfl) T.isi (by decide +kernel) (pa_cons (pv 0) (pa_cons (pe_glob (v := .ref (c.CA 26)) rfl T.g26 rfl) pa_nil))) pa_nil)))))))
      (pss_one (ps_ret (pe_op op_cat (pv 1) (pe_lst (pa_cons (pe_callB call_isX (by rfl) T.isi (by decide +kernel) (pa_cons (pv 0) (pa_cons (pe_glob (v := .ref (c.CA 27)) rfl T.g27 rfl) pa_nil))) (pa_cons (pe_callB call_isX (by rfl) T.isi (by decide +kernel) (pa_cons (pv 0) (pa_cons (pe_glob (v := .ref (c.CA 28)) rfl T.g28 rfl) pa_nil))) pa_nil))))))))))))), ?_⟩
    obtain ⟨fI, F, B, n1, n2, bm, ex⟩ := M.ext k hk
    have kit := M.kit k hk
    generalize hH : H = H0 at e1 e2 fin ⊢
    clear hH
    have S0 : Same H0 H0 := same_rf _
    refine ⟨_, rfl, a, c.CA k, dx, fI, F, B, n1, n2, bm, _, _, decide (0 = k), rfl, ex, S0 _ _ e1, ⟨_, S0 _ _ e2⟩, .own _, kit 0 (by decide), _, rfl, a, c.CA k, dx, fI, F, B, n1, n2, bm, _, _, decide (1 = k), rfl, ex, S0 _ _ e1, ⟨_, S0 _ _ e2⟩, .own _, kit 1 (by decide), _, rfl, a, c.CA k, dx, fI, F, B, n1, n2, bm, _, _, decide (2 = k), rfl, ex, S0 _ _ e1, ⟨_, S0 _ _ e2⟩, .own _, kit 2 (by decide), ?_⟩
    refine ⟨by rw [sizeLine_eq]; show 3 ≤ 16777216; decide, fun l0 nn => ?_⟩
    generalize hG : upd H0 l0 _ = H1
    obtain ⟨s1, z1⟩ := same_of nn hG
    clear hG nn
    have S1 := same_tr S0 s1
    refine ⟨_, rfl, ?_⟩
    refine ⟨_, rfl, a, c.CA k, dx, fI, F, B, n1, n2, bm, _, _, decide (3 = k), rfl, ex, S1 _ _ e1, ⟨_, S1 _ _ e2⟩, .own _, kit 3 (by decide), _, rfl, a, c.CA k, dx, fI, F, B, n1, n2, bm, _, _, decide (4 = k), rfl, ex, S1 _ _ e1, ⟨_, S1 _ _ e2⟩, .own _, kit 4 (by decide), _, rfl, a, c.CA k, dx, fI, F, B, n1, n2, bm, _, _, decide (5 = k), rfl, ex, S1 _ _ e1, ⟨_, S1 _ _ e2⟩, .own _, kit 5 (by decide), ?_⟩
    refine ⟨by rw [sizeLine_eq]; show 3 ≤ 16777216; decide, fun l1 nn => ?_⟩
    generalize hG : upd H1 l1 _ = H2
    obtain ⟨s2, z2⟩ := same_of nn hG
    clear hG nn
    have S2 := same_tr S1 s2
    refine ⟨l0, l1, _, _, rfl, rfl, s2 _ _ z1, z2, by rw [sizeLine_eq]; show 6 ≤ 16777216; decide, fun p1 nn => ?_⟩
    generalize hG : upd H2 p1 _ = H3
    obtain ⟨s3, z3⟩ := same_of nn hG
    clear hG nn
    have S3 := same_tr S2 s3
    refine ⟨_, rfl, ?_⟩
    refine ⟨_, rfl, a, c.CA k, dx, fI, F, B, n1, n2, bm, _, _, decide (6 = k), rfl, ex, S3 _ _ e1, ⟨_, S3 _ _ e2⟩, .own _, kit 6 (by decide), _, rfl, a, c.CA k, dx, fI, F, B, n1, n2, bm, _, _, decide (7 = k), rfl, ex, S3 _ _ e1, ⟨_, S3 _ _ e2⟩, .own _, kit 7 (by decide), _, rfl, a, c.CA k, dx, fI, F, B, n1, n2, bm, _, _, decide (8 = k), rfl, ex, S3 _ _ e1, ⟨_, S3 _ _ e2⟩, .own _, kit 8 (by decide), ?_⟩
    refine ⟨by rw [sizeLine_eq]; show 3 ≤ 16777216; decide, fun l2 nn => ?_⟩
    generalize hG : upd H3 l2 _ = H4
    obtain ⟨s4, z4⟩ := same_of nn hG
    clear hG nn
    have S4 := same_tr S3 s4
    refine ⟨p1, l2, _, _, rfl, rfl, s4 _ _ z3, z4, by rw [sizeLine_eq]; show 9 ≤ 16777216; decide, fun p2 nn => ?_⟩
    generalize hG : upd H4 p2 _ = H5
    obtain ⟨s5, z5⟩ := same_of nn hG
    clear hG nn
    have S5 := same_tr S4 s5
    refine ⟨_, rfl, ?_⟩
    refine ⟨_, rfl, a, c.CA k, dx, fI, F, B, n1, n2, bm, _, _, decide (9 = k), rfl, ex, S5 _ _ e1, ⟨_, S5 _ _ e2⟩, .own _, kit 9 (by decide), _, rfl, a, c.CA k, dx, fI, F, B, n1, n2, bm, _, _, decide (10 = k), rfl, ex, S5 _ _ e1, ⟨_, S5 _ _ e2⟩, .own _, kit 10 (by decide), _, rfl, a, c.CA k, dx, fI, F, B, n1, n2, bm, _, _, decide (11 = k), rfl, ex, S5 _ _ e1, ⟨_, S5 _ _ e2⟩, .own _, kit 11 (by decide), ?_⟩
    refine ⟨by rw [sizeLine_eq]; show 3 ≤ 16777216; decide, fun l3 nn => ?_⟩
    generalize hG : upd H5 l3 _ = H6
    obtain ⟨s6, z6⟩ := same_of nn hG
    clear hG nn
    have S6 := same_tr S5 s6
    refine ⟨p2, l3, _, _, rfl, rfl, s6 _ _ z5, z6, by rw [sizeLine_eq]; show 12 ≤ 16777216; decide, fun p3 nn => ?_⟩
    generalize hG : upd H6 p3 _ = H7
    obtain ⟨s7, z7⟩ := same_of nn hG
    clear hG nn
    have S7 := same_tr S6 s7
    refine ⟨_, rfl, ?_⟩
    refine ⟨_, rfl, a, c.CA k, dx, fI, F, B, n1, n2, bm, _, _, decide (12 = k), rfl, ex, S7 _ _ e1, ⟨_, S7 _ _ e2⟩, .own _, kit 12 (by decide), _, rfl, a, c.CA k, dx, fI, F, B, n1, n2, bm, _, _, decide (13 = k), rfl, ex, S7 _ _ e1, ⟨_, S7 _ _ e2⟩, .own _, kit 13 (by decide), _, rfl, a, c.CA k, dx, fI, F, B, n1, n2, bm, _, _, decide (14 = k), rfl, ex, S7 _ _ e1, ⟨_, S7 _ _ e2⟩, .own _, kit 14 (by decide), ?_⟩
    refine ⟨by rw [sizeLine_eq]; show 3 ≤ 16777216; decide, fun l4 nn => ?_⟩
    generalize hG : upd H7 l4 _ = H8
    obtain ⟨s8, z8⟩ := same_of nn hG
    clear hG nn
    have S8 := same_tr S7 s8
    refine ⟨p3, l4, _, _, rfl, rfl, s8 _ _ z7, z8, by rw [sizeLine_eq]; show 15 ≤ 16777216; decide, fun p4 nn => ?_⟩
    generalize hG : upd H8 p4 _ = H9
    obtain ⟨s9, z9⟩ := same_of nn hG
    clear hG nn
    have S9 := same_tr S8 s9
    refine ⟨_, rfl, ?_⟩
    refine ⟨_, rfl, a, c.CA k, dx, fI, F, B, n1, n2, bm, _, _, decide (15 = k), rfl, ex, S9 _ _ e1, ⟨_, S9 _ _ e2⟩, .own _, kit 15 (by decide), _, rfl, a, c.CA k, dx, fI, F, B, n1, n2, bm, _, _, decide (16 = k), rfl, ex, S9 _ _ e1, ⟨_, S9 _ _ e2⟩, .own _, kit 16 (by decide), _, rfl, a, c.CA k, dx, fI, F, B, n1, n2, bm, _, _, decide (17 = k), rfl, ex, S9 _ _ e1, ⟨_, S9 _ _ e2⟩, .own _, kit 17 (by decide), _, rfl, a, c.CA k, dx, fI, F, B, n1, n2, bm, _, _, decide (18 = k), rfl, ex, S9 _ _ e1, ⟨_, S9 _ _ e2⟩, .own _, kit 18 (by decide), ?_⟩
    refine ⟨by rw [sizeLine_eq]; show 4 ≤ 16777216; decide, fun l5 nn => ?_⟩
    generalize hG : upd H9 l5 _ = H10
    obtain ⟨s10, z10⟩ := same_of nn hG
    clear hG nn
    have S10 := same_tr S9 s10
    refine ⟨p4, l5, _, _, rfl, rfl, s10 _ _ z9, z10, by rw [sizeLine_eq]; show 19 ≤ 16777216; decide, fun p5 nn => ?_⟩
    generalize hG : upd H10 p5 _ = H11
    obtain ⟨s11, z11⟩ := same_of nn hG
    clear hG nn
    have S11 := same_tr S10 s11
    refine ⟨_, rfl, ?_⟩
    refine ⟨_, rfl, a, c.CA k, dx, fI, F, B, n1, n2, bm, _, _, decide (19 = k), rfl, ex, S11 _ _ e1, ⟨_, S11 _ _ e2⟩, .own _, kit 19 (by decide), _, rfl, a, c.CA k, dx, fI, F, B, n1, n2, bm, _, _, decide (20 = k), rfl, ex, S11 _ _ e1, ⟨_, S11 _ _ e2⟩, .own _, kit 20 (by decide), _, rfl, a, c.CA k, dx, fI, F, B, n1, n2, bm, _, _, decide (21 = k), rfl, ex, S11 _ _ e1, ⟨_, S11 _ _ e2⟩, .own _, kit 21 (by decide), _, rfl, a, c.CA k, dx, fI, F, B, n1, n2, bm, _, _, decide (22 = k), rfl, ex, S11 _ _ e1, ⟨_, S11 _ _ e2⟩, .own _, kit 22 (by decide), ?_⟩
    refine ⟨by rw [sizeLine_eq]; show 4 ≤ 16777216; decide, fun l6 nn => ?_⟩
    generalize hG : upd H11 l6 _ = H12
    obtain ⟨s12, z12⟩ := same_of nn hG
    clear hG nn
    have S12 := same_tr S11 s12
    refine ⟨p5, l6, _, _, rfl, rfl, s12 _ _ z11, z12, by rw [sizeLine_eq]; show 23 ≤ 16777216; decide, fun p6 nn => ?_⟩
    generalize hG : upd H12 p6 _ = H13
    obtain ⟨s13, z13⟩ := same_of nn hG
    clear hG nn
    have S13 := same_tr S12 s13
    refine ⟨_, rfl, ?_⟩
    refine ⟨_, rfl, a, c.CA k, dx, fI, F, B, n1, n2, bm, _, _, decide (23 = k), rfl, ex, S13 _ _ e1, ⟨_, S13 _ _ e2⟩, .own _, kit 23 (by decide), _, rfl, a, c.CA k, dx, fI, F, B, n1, n2, bm, _, _, decide (24 = k), rfl, ex, S13 _ _ e1, ⟨_, S13 _ _ e2⟩, .own _, kit 24 (by decide), _, rfl, a, c.CA k, dx, fI, F, B, n1, n2, bm, _, _, decide (25 = k), rfl, ex, S13 _ _ e1, ⟨_, S13 _ _ e2⟩, .own _, kit 25 (by decide), _, rfl, a, c.CA k, dx, fI, F, B, n1, n2, bm, _, _, decide (26 = k), rfl, ex, S13 _ _ e1, ⟨_, S13 _ _ e2⟩, .own _, kit 26 (by decide), ?_⟩
    refine ⟨by rw [sizeLine_eq]; show 4 ≤ 16777216; decide, fun l7 nn => ?_⟩
    generalize hG : upd H13 l7 _ = H14
    obtain ⟨s14, z14⟩ := same_of nn hG
    clear hG nn
    have S14 := same_tr S13 s14
    refine ⟨p6, l7, _, _, rfl, rfl, s14 _ _ z13, z14, by rw [sizeLine_eq]; show 27 ≤ 16777216; decide, fun p7 nn => ?_⟩
    generalize hG : upd H14 p7 _ = H15
    obtain ⟨s15, z15⟩ := same_of nn hG
    clear hG nn
    have S15 := same_tr S14 s15
    refine ⟨_, rfl, ?_⟩
    refine ⟨_, rfl, a, c.CA k, dx, fI, F, B, n1, n2, bm, _, _, decide (27 = k), rfl, ex, S15 _ _ e1, ⟨_, S15 _ _ e2⟩, .own _, kit 27 (by decide), _, rfl, a, c.CA k, dx, fI, F, B, n1, n2, bm, _, _, decide (28 = k), rfl, ex, S15 _ _ e1, ⟨_, S15 _ _ e2⟩, .own _, kit 28 (by decide), ?_⟩
    refine ⟨by rw [sizeLine_eq]; show 2 ≤ 16777216; decide, fun l8 nn => ?_⟩
    generalize hG : upd H15 l8 _ = H16
    obtain ⟨s16, z16⟩ := same_of nn hG
    clear hG nn
    have S16 := same_tr S15 s16
    refine ⟨p7, l8, _, _, rfl, rfl, s16 _ _ z15, z16, by rw [sizeLine_eq]; show 29 ≤ 16777216; decide, fun p8 nn => ?_⟩
    generalize hG : upd H16 p8 _ = H17
    obtain ⟨s17, z17⟩ := same_of nn hG
    clear hG nn
    have S17 := same_tr S16 s17
    exact fin p8 H17 S17 z17
end
end K1
set_option Elab.async false
set_option linter.all false
set_option maxRecDepth 100000
set_option maxHeartbeats 4000000
set_option exponentiation.threshold 100000
namespace K1
open PySem PySem.Spec PyProof.Rows L2 RmX Rm
abbrev sFam : Stmt := top 39
def loopOf : Stmt → List Stmt
  | .For _ _ b _ _ => b
  | _ => []
abbrev sOuter : List Stmt := loopOf ((defBody sFam).getD 1 (.Pass ⟨0, 0, 0, 0⟩))
abbrev sInner : List Stmt := loopOf (sOuter.getD 0 (.Pass ⟨0, 0, 0, 0⟩))
abbrev nF : List Str := ["made", "at", "spot", "group", "e", "kinds", "own", "other", "k"]
theorem scFm : FnScope nF ["made"] (defScope sFam) := ⟨rfl, rfl, rfl, by decide +kernel, rfl, by decide +kernel, by decide +kernel⟩
structure TxtB (mg : Str → Option Value) : Prop where
  range : mg "range" = none
  enum : mg "enumerate" = none
  rep : mg "repr" = none
  min : mg "min" = none
  len : mg "len" = none
  zValueError : mg "ValueError" = none
  zRuntimeError : mg "RuntimeError" = none
  zLookupError : mg "LookupError" = none
  zKeyError : mg "KeyError" = none
  zIndexError : mg "IndexError" = none
  zNotImplementedError : mg "NotImplementedError" = none
theorem kinds_ok {c : Adr} {H : Hp} {a : Addr} {k : Nat} {x : V} {Q : VK} {E : XK} (hk : k < 29) (he : Exk c H k a x) (h : ∀ r H', Same H H' → H' r = some (.lst (kindsV k)) → Q (.ref r) H') : Bx (spKinds c [.ref a] H Q E) := ⟨⟨a, k, x, rfl, hk, he, h⟩⟩
def flagsK (k : Nat) : List Bool := [decide (0 = k), decide (1 = k), decide (2 = k), decide (3 = k), decide (4 = k), decide (5 = k), decide (6 = k), decide (7 = k), decide (8 = k), decide (9 = k), decide (10 = k), decide (11 = k), decide (12 = k), decide (13 = k), decide (14 = k), decide (15 = k), decide (16 = k), decide (17 = k), decide (18 = k), decide (19 = k), decide (20 = k), decide (21 = k), decide (22 = k), decide (23 = k), decide (24 = k), decide (25 = k), decide (26 = k), decide (27 = k), decide (28 = k)]
theorem flags_one : ∀ k, k < 29 → (flagsK k).count true = 1 := by decide +kernel
theorem flags_at : ∀ k, k < 29 → atI (kindsV k) (k : Int) = some (V.bl true) := by decide +kernel
theorem flags_eq (k : Nat) : kindsV k = (flagsK k).map V.bl := rfl
theorem dec_nat (i j : Nat) : decide (V.int (0 + (i : Int)) = V.int (j : Int)) = decide (i = j) := by
  rw [dec_int, Bool.eq_iff_iff, beq_iff_eq, decide_eq_true_eq]
  omega
theorem fam_lt {k : Nat} : fam k < 3 := by
  unfold fam
  split
  · decide
  · split <;> decide
section
variable {P : Program} {w : World} {K : PySem.W.Frag} {mg : Str → Option Value} {base : Heap} {c : Adr} {fK : Addr} {fdK : FuncData}
theorem inner {f : Addr} {cdv : Value} {A : Around} {outer : List Env} {s : Shared} {H : Hp} {Q : VK} {E : XK} (T : TxtC P K mg c) (M : Kit P K mg c) (B : TxtB mg) (hr : Room 1 (A.deeper (envOfC "_law_families_right" (defScope sFam) s.heap.objs.size f cdv))) (hgd : A.guards = some []) (cK : Cal P w K mg base "_law_kinds" fK fdK 1 ["e"] (bx (spKinds c))) :
    ∃ u, PSs (cxOf (L2.CX P w) P w K mg base nF "_law_families_right" (defScope sFam) f cdv A outer s H E) sInner u ∧ ∀ (D : Ends) (H1 : Hp) (a : Addr) (k : Nat) (x : V) (b0 b3 b5 b6 b7 b8 : Option V) (hk : k < 29) (he : Exk c H1 k a x)
      (fin : ∀ (v5 v6 v7 v8 : Option V) (H' : Hp), Same H1 H' → D.nx [b0, some (.int ((k : Int) + 1)), some (.int ((fam k : Nat) : Int)), b3, some (.ref a), v5, v6, v7, v8] H'), u D [b0, some (.int (k : Int)), some (.int ((fam k : Nat) : Int)), b3, some (.ref a), b5, b6, b7, b8] H1 := by
  refine ⟨_, pss_cons (ps_set (i := 5) scFm.nd rfl (Or.inl rfl) (pe_cal cK hr hgd (pa_cons (pv 4) pa_nil)))
      (pss_cons (ps_set (i := 6) scFm.nd rfl (Or.inl rfl) (pe_lst (pa_cons (pe_callB call_isX (by rfl) T.isi (by decide +kernel) (pa_cons (pv 4) (pa_cons (pe_glob (v := .ref (c.FA 0)) rfl T.gP rfl) pa_nil))) (pa_cons (pe_callB call_isX (by rfl) T.isi (by decide +kernel) (pa_cons (pv 4) (pa_cons (pe_glob (v := .ref (c.FA 1)) rfl T.gS rfl) pa_nil))) (pa_cons (pe_callB call_isX (by rfl) T.isi (by decide +kernel) (pa_cons (pv 4) (pa_cons (pe_glob (v := .ref (c.FA 2)) rfl T.gM rfl) pa_nil))) pa_nil)))))
      (pss_cons (ps_set (i := 7) scFm.nd rfl (Or.inl rfl) (pe_lst (pa_cons (pe_callB call_isX (by rfl) T.isi (by decide +kernel) (pa_cons (pv 4) (pa_cons (pe_bltn (v := .ty "ValueError") (by rfl) B.zValueError (by decide +kernel) rfl) pa_nil))) (pa_cons (pe_callB call_isX (by rfl) T.isi (by decide +kernel) (pa_cons (pv 4) (pa_cons (pe_bltn (v := .ty "RuntimeError") (by rfl) B.zRuntimeError (by decide +kernel) rfl) pa_nil))) (pa_cons (pe_callB call_isX (by rfl) T.isi (by decide +kernel) (pa_cons (pv 4) (pa_cons (pe_bltn (v := .ty "LookupError") (by rfl) B.zLookupError (by decide +kernel) rfl) pa_nil))) pa_nil)))))
      (pss_cons (ps_if (PW.pt (pw_or (pt_cmpR op_ne (pe_bm PySem.F.plainAttrs_list PySem.F.slot_list_count PySem.F.type_list_count mt_bcount (pv 5) (pa_cons pe_bl pa_nil)) pe_int (nomark _)) (pw_or (pt_not (pt_val (pe_ix ix_list (pv 5) (pv 1) (fun _ _ => rfl)))) (pw_or (pt_cmpR (op_neD hr.units) (pv 6) (pe_lc (own := [("k", 8)]) (g := gName 8) (tt := tYes) rfl scFm.nd (pi_range1 rfl B.range (pa_cons pe_int pa_nil)) (blkOk_by (N := nF) (sc := defScope sFam) (by decide +kernel)) (fun _ _ _ _ _ => pg_name (i := 8) scFm.nd rfl (Or.inl rfl)) (fun _ _ _ _ _ => pts_nil) (fun _ _ _ _ _ => pe_cmpR op_eq (pv 8) (pv 2) (nomark _))) (nomark _)) (pw_or1 (pt_cmpR (op_neD hr.units) (pv 7) (pv 6) (nomark _))))))) (pss_one (ps_ret pe_bl)) pss_nil)
      (pss_cons (ps_if (pt_val (pe_callB call_isXT (by rfl) T.isi (by decide +kernel) (pa_cons (pv 4) (pa_cons (pe_tup (pa_cons (pe_bltn (v := .ty "KeyError") (by rfl) B.zKeyError (by decide +kernel) rfl) (pa_cons (pe_bltn (v := .ty "IndexError") (by rfl) B.zIndexError (by decide +kernel) rfl) (pa_cons (pe_bltn (v := .ty "NotImplementedError") (by rfl) B.zNotImplementedError (by decide +kernel) rfl) pa_nil)))) pa_nil)))) (pss_one (ps_ret pe_bl)) pss_nil)
      (pss_one (ps_set (i := 1) scFm.nd rfl (Or.inl rfl) (pe_op op_add (pv 1) pe_int))))))), ?_⟩
  intro D H1 a k x b0 b3 b5 b6 b7 b8 hk he fin
  obtain ⟨fI, F, n0, n1, n2, bm, ex⟩ := M.ext k hk
  refine ⟨_, rfl, kinds_ok hk he fun r H2 s2 hr2 => ?_⟩
  obtain ⟨dx, e1, e2⟩ := he
  have E2 := And.intro (s2 _ _ e1) (s2 _ _ e2)
  refine ⟨_, rfl, a, c.CA k, dx, fI, F, n0, n1, n2, bm, _, _, decide (0 = fam k), rfl, ex, E2.1, ⟨_, E2.2⟩, .own _, M.kfa k hk 0 (by decide), _, rfl, a, c.CA k, dx, fI, F, n0, n1, n2, bm, _, _, decide (1 = fam k), rfl, ex, E2.1, ⟨_, E2.2⟩, .own _, M.kfa k hk 1 (by decide), _, rfl, a, c.CA k, dx, fI, F, n0, n1, n2, bm, _, _, decide (2 = fam k), rfl, ex, E2.1, ⟨_, E2.2⟩, .own _, M.kfa k hk 2 (by decide), ?_⟩
  refine ⟨by rw [sizeLine_eq]; show 3 ≤ 16777216; decide, fun o nn => ?_⟩
  generalize hG : upd H2 o _ = H3
  obtain ⟨s3, ho⟩ := same_of nn hG
  clear hG nn
  have E3 := And.intro (s3 _ _ E2.1) (s3 _ _ E2.2)
  refine ⟨_, rfl, a, c.CA k, dx, fI, F, n0, n1, n2, bm, _, _, decide (0 = fam k), rfl, ex, E3.1, ⟨_, E3.2⟩, .ty _, M.kV k hk, _, rfl, a, c.CA k, dx, fI, F, n0, n1, n2, bm, _, _, decide (1 = fam k), rfl, ex, E3.1, ⟨_, E3.2⟩, .ty _, M.kR k hk, _, rfl, a, c.CA k, dx, fI, F, n0, n1, n2, bm, _, _, decide (2 = fam k), rfl, ex, E3.1, ⟨_, E3.2⟩, .ty _, M.kL k hk, ?_⟩
  refine ⟨by rw [sizeLine_eq]; show 3 ≤ 16777216; decide, fun t nn => ?_⟩
  generalize hG : upd H3 t _ = H4
  obtain ⟨s4, ht⟩ := same_of nn hG
  clear hG nn
  have E4 := And.intro (s4 _ _ E3.1) (s4 _ _ E3.2)
  have hk4 := s4 _ _ (s3 _ _ hr2)
  have ho4 := s4 _ _ ho
  refine ⟨_, rfl, .inl ⟨rfl, _, .of hk4⟩, r, flagsK k, true, rfl, rfl, .of hk4, ?_⟩
  rw [flags_one k hk]
  refine ⟨rfl, _, rfl, iteNS rfl ?_⟩
  refine ⟨_, rfl, _, rfl, r, _, _, _, rfl, rfl, .of hk4, flags_at k hk, _, rfl, iteF ?_⟩
  refine ⟨_, rfl, 3, rfl, by decide, by decide, fun D0 nD => lc_range (lo := 0) (n := 3) (fun i H' => H' D0 = some (.lst ((List.range i).map fun j => V.bl (decide (j = fam k)))) ∧ Same H4 H') ⟨upd_same, (same_of nD rfl).1⟩ (fun i H' hi hP => ?_) (fun H' hP => ?_)⟩
  · obtain ⟨hD, s'⟩ := hP
    refine ⟨rfl, _, rfl, _, rfl, rfl, _, hD, by rw [List.length_map, List.length_range, sizeLine_eq]; omega, ?_, ?_⟩
    · rw [upd_same, List.range_succ, List.map_append]
      show some (HO.lst (_ ++ [V.bl (decide (V.int (0 + (i : Int)) = V.int ((fam k : Nat) : Int)))])) = _
      rw [dec_nat]
      rfl
    · exact fun b u q => by
        rw [upd_ne (ne_of_none q nD)]
        exact s' b u q
  · obtain ⟨hD, s5⟩ := hP
    have own5 : Dp K H' (.ref o) (.list [.bool (decide (0 = fam k)), .bool (decide (1 = fam k)), .bool (decide (2 = fam k))]) := .lst (.of (s5 _ _ ho4)) (.cons (.bl _) (.cons (.bl _) (.cons (.bl _) .nil)))
    have oth5 : Dp K H' (.ref t) (.list [.bool (decide (0 = fam k)), .bool (decide (1 = fam k)), .bool (decide (2 = fam k))]) := .lst (.of (s5 _ _ ht)) (.cons (.bl _) (.cons (.bl _) (.cons (.bl _) .nil)))
    have com5 : Dp K H' (.ref D0) (.list [.bool (decide (0 = fam k)), .bool (decide (1 = fam k)), .bool (decide (2 = fam k))]) := .lst (.of hD) (.cons (.bl _) (.cons (.bl _) (.cons (.bl _) .nil)))
    refine ⟨_, _, own5, com5, by rfl, by rfl, _, rfl, ?_⟩
    rw [SeqAt.eqv_refl _ (by rfl)]
    refine iteF ⟨_, rfl, _, rfl, _, _, oth5, own5, by rfl, by rfl, _, rfl, ?_⟩
    rw [SeqAt.eqv_refl _ (by rfl)]
    refine iteF ?_
    have E5 := And.intro (s5 _ _ E4.1) (s5 _ _ E4.2)
    refine ⟨_, rfl, ?_⟩
    refine ⟨by rw [sizeLine_eq]; show 3 ≤ 16777216; decide, fun tp nn => ?_⟩
    generalize hG : upd H' tp _ = H6
    obtain ⟨s6, htp⟩ := same_of nn hG
    clear hG nn
    refine ⟨a, c.CA k, dx, fI, F, n0, n1, n2, bm, tp, _, _, false, rfl, ex, s6 _ _ E5.1, ⟨_, s6 _ _ E5.2⟩, htp, .cons (.ty _) (.cons (.ty _) (.cons (.ty _) .nil)), M.kN k hk, _, rfl, iteF ?_⟩
    exact ⟨_, rfl, _, _, rfl, rfl, fin _ _ _ _ _ (same_tr s2 (same_tr s3 (same_tr s4 (same_tr s5 s6))))⟩
def spFam (c : Adr) : Sp := fun vs H Q _ => ∃ (r : Addr) (x : V), vs = [.ref r] ∧ MadeAt c H r x ∧ ∀ H', Same H H' → Q (.bl true) H'
theorem grp_at {c : Adr} {H : Hp} {x : V} : ∀ {s : Nat} {xs : List V} {j : Nat} {y : V}, Grp c H x s xs → xs[j]? = some y → ∃ a, y = .ref a ∧ Exk c H (s + j) a x
  | _, _, _, _, .nil _, h => by simp at h
  | s, _, 0, y, .cons e r, h => by
    injection h with h
    exact ⟨_, h.symm, e⟩
  | s, _, j + 1, y, .cons e r, h => by
    obtain ⟨a, h1, h2⟩ := grp_at (j := j) r (by simpa using h)
    have es : s + (j + 1) = s + 1 + j := by omega
    rw [es]
    exact ⟨a, h1, h2⟩
theorem Exk.same {c : Adr} {H H' : Hp} {k : Nat} {a : Addr} {x : V} (e : Exk c H k a x) (s : Same H H') : Exk c H' k a x := by
  obtain ⟨dx, h1, h2⟩ := e
  exact ⟨dx, s _ _ h1, s _ _ h2⟩
theorem Grp.same {c : Adr} {H H' : Hp} {x : V} (s : Same H H') : ∀ {n : Nat} {xs : List V}, Grp c H x n xs → Grp c H' x n xs
  | _, _, .nil _ => .nil _
  | _, _, .cons e r => .cons (e.same s) (Grp.same s r)
def offs (i : Nat) : Nat := if i = 0 then 0 else if i = 1 then 8 else if i = 2 then 23 else 29
def lens (i : Nat) : Nat := if i = 0 then 8 else if i = 1 then 15 else 6
theorem offs_fam : ∀ i, i < 3 → ∀ j, j < lens i → fam (offs i + j) = i ∧ offs i + j < 29 := by decide +kernel
theorem offs_next : ∀ i, i < 3 → offs i + lens i = offs (i + 1) := by decide +kernel
theorem ok_fam {f : Addr} {fd : FuncData} (F : Fun K "_law_families_right" "_law_families_right" sFam f fd) (T : TxtC P K mg c) (M : Kit P K mg c) (B : TxtB mg) (cK : Cal P w K mg base "_law_kinds" fK fdK 1 ["e"] (bx (spKinds c))) : FnG P w K mg base 2 f fd ["made"] (spFam c) := by
  refine okG F scFm (fun vs H Q E h => ?_) (fun cdv A outer s H vs Q E hr hgd h => ?_)
  · obtain ⟨r, x, rfl, _⟩ := h
    rfl
  · obtain ⟨r, x, rfl, ⟨m1, m2, m3, x1, x2, x3, hr0, h1, h2, h3, g1, g2, g3, n1, n2, n3⟩, fin⟩ := h
    obtain ⟨u, hu, ku⟩ := inner (outer := outer) (s := s) (H := H) (Q := Q) (E := E) T M B hr hgd cK
    refine ⟨_, pss_cons (ps_set (i := 1) scFm.nd rfl (Or.inl rfl) pe_int)
      (pss_cons (ps_for PassesOwn.leaving rfl (pi_enum (by rfl) B.enum (pa_cons (pv 0) pa_nil)) (pg_tup rfl (pgs_cons (pg_name (i := 2) scFm.nd rfl (Or.inr rfl)) (pgs_cons (pg_name (i := 3) scFm.nd rfl (Or.inl rfl)) pgs_nil))) (pss_one (ps_for PassesOwn.leaving rfl (pi_list (pv 3)) (pg_name (i := 4) scFm.nd rfl (Or.inl rfl)) hu)))
      (pss_one (ps_ret (pe_cmpR op_eq (pv 1) pe_int (nomark _))))), ?_⟩
    have allg : ∀ i, i < 3 → ∃ (m : Addr) (xs : List V), [V.ref m1, V.ref m2, V.ref m3][i]? = some (.ref m) ∧ H m = some (.lst xs) ∧ Grp c H x (offs i) xs ∧ xs.length = lens i := by
      intro i hi
      match i, hi with
      | 0, _ => exact ⟨m1, x1, rfl, h1, g1, n1⟩
      | 1, _ => exact ⟨m2, x2, rfl, h2, g2, n2⟩
      | 2, _ => exact ⟨m3, x3, rfl, h3, g3, n3⟩
    refine ⟨_, rfl, r, _, rfl, .of hr0, fun i m σ H' => m = 3 - i ∧ i ≤ 3 ∧ ∃ b2 b3 b4 b5 b6 b7 b8 : Option V, σ = [some (.ref r), some (.int ((offs i : Nat) : Int)), b2, b3, b4, b5, b6, b7, b8] ∧ Same H H', ⟨3, rfl, by decide, _, _, _, _, _, _, _, rfl, same_rf _⟩, ?_⟩
    rintro i m σ H' ⟨rfl, hi, b2, b3, b4, b5, b6, b7, b8, rfl, s'⟩
    by_cases h3 : i < 3
    · obtain ⟨mi, xs, hm, hmx, gx, lx⟩ := allg i h3
      refine .inr ⟨⟨_, _, .of (s' _ _ hr0), hm⟩, fun σ' H2 => ∃ c2 c3 c4 c5 c6 c7 c8 : Option V, σ' = [some (.ref r), some (.int ((offs (i + 1) : Nat) : Int)), c2, c3, c4, c5, c6, c7, c8] ∧ Same H H2, ?_, ?_⟩
      · rintro σ' H2 ⟨c2, c3, c4, c5, c6, c7, c8, e, s2⟩
        exact ⟨3 - (i + 1), by omega, rfl, by omega, c2, c3, c4, c5, c6, c7, c8, e, s2⟩
      · rintro v H2 ⟨T0, y, rfl, nT, rfl, hx⟩
        have ey := hx _ (.of (s' _ _ hr0))
        rw [hm] at ey
        injection ey with ey
        subst ey
        refine ⟨T0, _, rfl, .of upd_same, rfl, _, _, rfl, _, _, rfl, rfl, ?_⟩
        generalize hG : upd H' T0 _ = H3
        obtain ⟨s3, _⟩ := same_of nT hG
        clear hG
        have S3 := same_tr s' s3
        refine ⟨_, rfl, mi, rfl, ⟨_, .of (S3 _ _ hmx)⟩, for_list (K := K) (a := mi) (xs := xs) (fun j σ H4 => ∃ c4 c5 c6 c7 c8 : Option V, σ = [some (.ref r), some (.int ((offs i + j : Nat) : Int)), some (.int ((i : Nat) : Int)), some (.ref mi), c4, c5, c6, c7, c8] ∧ Same H3 H4)
          ⟨_, _, _, _, _, rfl, same_rf _⟩ (fun j σ H4 _ ⟨_, _, _, _, _, _, s4⟩ => .of (s4 _ _ (S3 _ _ hmx))) ?_ ?_⟩
        · rintro j y σ H4 hj ⟨c4, c5, c6, c7, c8, rfl, s4⟩
          obtain ⟨a, rfl, ek⟩ := grp_at gx hj
          have hjl : j < lens i := by
            rw [← lx]
            exact (List.getElem?_eq_some_iff.mp hj).1
          obtain ⟨f1, f2⟩ := offs_fam i h3 j hjl
          have K1 := fun (D : Ends) (b5 b6 b7 b8 : Option V) (fin) => ku D H4 a (offs i + j) x (some (.ref r)) (some (.ref mi)) b5 b6 b7 b8 f2 (ek.same (same_tr S3 s4)) fin
          rw [f1] at K1
          exact K1 _ _ _ _ _ fun v5 v6 v7 v8 H5 s5 => ⟨_, _, _, _, _, rfl, same_tr s4 s5⟩
        · rintro σ H4 ⟨c4, c5, c6, c7, c8, rfl, s4⟩
          rw [lx, offs_next i h3]
          exact ⟨_, _, _, _, _, _, _, rfl, same_tr S3 s4⟩
    · have e3 : i = 3 := by omega
      subst e3
      refine .inl ⟨⟨_, .of (s' _ _ hr0), by simp⟩, ?_⟩
      refine ⟨_, rfl, rfl, ?_⟩
      show Q (.bl (decide (V.int 29 = V.int 29))) H'
      rw [decide_eq_true rfl]
      exact fin _ s'
end
end K1
set_option Elab.async false
set_option linter.all false
set_option maxRecDepth 100000
set_option maxHeartbeats 4000000
set_option exponentiation.threshold 100000
namespace K1
open PySem PySem.Spec PyProof.Rows L2 RmX Rm
abbrev sFields : Stmt := top 40
abbrev sNamed : Stmt := top 41
theorem at_i {xs : List V} {j : Nat} (h : j < xs.length) : atI xs (j : Int) = xs[j]? := by
  unfold atI ixN
  rw [if_pos (by omega), if_pos (by omega)]
  show xs[(j : Int).toNat]? = xs[j]?
  rw [Int.toNat_natCast]
theorem grp_i {c : Adr} {H : Hp} {x : V} {s : Nat} {xs : List V} {j : Nat} (g : Grp c H x s xs) (h : j < xs.length) : ∃ a, atI xs (j : Int) = some (.ref a) ∧ Exk c H (s + j) a x := by
  obtain ⟨a, e, ek⟩ := grp_at g (List.getElem?_eq_getElem h)
  refine ⟨a, ?_, ek⟩
  rw [at_i h, List.getElem?_eq_getElem h, e]
def spFields (c : Adr) : Sp := fun vs H Q _ => ∃ (r : Addr) (x : V), vs = [.ref r] ∧ MadeAt c H r x ∧ ∀ l H', Same H H' → H' l = some (.lst [x, x, x, x, x, x, x, x, x, x, x, x, x, x, x, x, x, x, x, x, x, x, x, x, x, x, x, x, x]) → Q (.ref l) H'
def spNamed (K : PySem.W.Frag) (c : Adr) : Sp := fun vs H Q _ => ∃ x d, vs = [x] ∧ Dp K H x d ∧ Fit d ∧ ∀ l H', Same H H' → H' l = some (.lst [x, x, x, x, x, x, x, x, x, x, x, x, x, x, x, x, x, x, x, x, x, x, x, x, x, x, x, x, x]) → Q (.ref l) H'
section
variable {P : Program} {w : World} {K : PySem.W.Frag} {mg : Str → Option Value} {base : Heap} {c : Adr}
theorem scFi : FnScope ["made", "first", "second", "third", "found"] ["made"] (defScope sFields) := ⟨rfl, rfl, rfl, by decide +kernel, rfl, by decide +kernel, by decide +kernel⟩
set_option maxHeartbeats 40000000 in
theorem ok_fields {f : Addr} {fd : FuncData} (F : Fun K "_law_fields" "_law_fields" sFields f fd) (T : TxtC P K mg c) : FnG P w K mg base 1 f fd ["made"] (spFields c) := by
  refine okG F scFi (fun vs H Q E h => ?_) (fun cdv A outer s H vs Q E hr hgd h => ?_)
  · obtain ⟨r, x, rfl, _⟩ := h
    rfl
  · obtain ⟨r, x, rfl, ⟨m1, m2, m3, x1, x2, x3, hr0, h1, h2, h3, gr1, gr2, gr3, n1, n2, n3⟩, fin⟩ := h
    refine ⟨_, pss_cons (ps_par3 (i := 1) (j := 2) (l := 3) (by rfl) scFi.nd rfl rfl rfl (by decide) (by decide) (by decide) rfl rfl rfl (pa_cons (pe_ix ix_list (pv 0) pe_int (fun _ _ => rfl)) (pa_cons (pe_ix ix_list (pv 0) pe_int (fun _ _ => rfl)) (pa_cons (pe_ix ix_list (pv 0) pe_int (fun _ _ => rfl)) pa_nil))) (by rfl))
      (pss_cons (ps_set (i := 4) scFi.nd rfl (Or.inl rfl) (pe_lst (pa_cons (pe_exf (pe_ix ix_list (pv 1) pe_int (fun _ _ => rfl))) (pa_cons (pe_exf (pe_ix ix_list (pv 1) pe_int (fun _ _ => rfl))) (pa_cons (pe_exf (pe_ix ix_list (pv 1) pe_int (fun _ _ => rfl))) (pa_cons (pe_exf (pe_ix ix_list (pv 1) pe_int (fun _ _ => rfl))) (pa_cons (pe_exf (pe_ix ix_list (pv 1) pe_int (fun _ _ => rfl))) (pa_cons (pe_exf (pe_ix ix_list (pv 1) pe_int (fun _ _ => rfl))) pa_nil))))))))
      (pss_cons (ps_set (i := 4) scFi.nd rfl (Or.inl rfl) (pe_op op_cat (pv 4) (pe_lst (pa_cons (pe_exf (pe_ix ix_list (pv 1) pe_int (fun _ _ => rfl))) (pa_cons (pe_exf (pe_ix ix_list (pv 1) pe_int (fun _ _ => rfl))) (pa_cons (pe_exf (pe_ix ix_list (pv 2) pe_int (fun _ _ => rfl))) (pa_cons (pe_exf (pe_ix ix_list (pv 2) pe_int (fun _ _ => rfl))) (pa_cons (pe_exf (pe_ix ix_list (pv 2) pe_int (fun _ _ => rfl))) pa_nil))))))))
      (pss_cons (ps_set (i := 4) scFi.nd rfl (Or.inl rfl) (pe_op op_cat (pv 4) (pe_lst (pa_cons (pe_exf (pe_ix ix_list (pv 2) pe_int (fun _ _ => rfl))) (pa_cons (pe_exf (pe_ix ix_list (pv 2) pe_int (fun _ _ => rfl))) (pa_cons (pe_exf (pe_ix ix_list (pv 2) pe_int (fun _ _ => rfl))) (pa_cons (pe_exf (pe_ix ix_list (pv 2) pe_int (fun _ _ => rfl))) (pa_cons (pe_exf (pe_ix ix_list (pv 2) pe_int (fun _ _ => rfl))) pa_nil))))))))
      (pss_cons (ps_set (i := 4) scFi.nd rfl (Or.inl rfl) (pe_op op_cat (pv 4) (pe_lst (pa_cons (pe_exf (pe_ix ix_list (pv 2) pe_int (fun _ _ => rfl))) (pa_cons (pe_exf (pe_ix ix_list (pv 2) pe_int (fun _ _ => rfl))) (pa_cons (pe_exf (pe_ix ix_list (pv 2) pe_int (fun _ _ => rfl))) (pa_cons (pe_exf (pe_ix ix_list (pv 2) pe_int (fun _ _ => rfl))) (pa_cons (pe_exf (pe_ix ix_list (pv 2) pe_int (fun _ _ => rfl))) pa_nil))))))))
      (pss_cons (ps_set (i := 4) scFi.nd rfl (Or.inl rfl) (pe_op op_cat (pv 4) (pe_lst (pa_cons (pe_exf (pe_ix ix_list (pv 2) pe_int (fun _ _ => rfl))) (pa_cons (pe_exf (pe_ix ix_list (pv 2) pe_int (fun _ _ => rfl))) (pa_cons (pe_exf (pe_ix ix_list (pv 3) pe_int (fun _ _ => rfl))) (pa_cons (pe_exf (pe_ix ix_list (pv 3) pe_int (fun _ _ => rfl))) (pa_cons (pe_exf (pe_ix ix_list (pv 3) pe_int (fun _ _ => rfl))) pa_nil))))))))
      (pss_one (ps_ret (pe_op op_cat (pv 4) (pe_lst (pa_cons (pe_exf (pe_ix ix_list (pv 3) pe_int (fun _ _ => rfl))) (pa_cons (pe_exf (pe_ix ix_list (pv 3) pe_int (fun _ _ => rfl))) (pa_cons (pe_exf (pe_ix ix_list (pv 3) pe_int (fun _ _ => rfl))) pa_nil)))))))))))), ?_⟩
    obtain ⟨a0, i0, dx0, e0, g0⟩ := grp_i (j := 0) gr1 (by rw [n1]; decide)
    obtain ⟨a1, i1, dx1, e1, g1⟩ := grp_i (j := 1) gr1 (by rw [n1]; decide)
    obtain ⟨a2, i2, dx2, e2, g2⟩ := grp_i (j := 2) gr1 (by rw [n1]; decide)
    obtain ⟨a3, i3, dx3, e3, g3⟩ := grp_i (j := 3) gr1 (by rw [n1]; decide)
    obtain ⟨a4, i4, dx4, e4, g4⟩ := grp_i (j := 4) gr1 (by rw [n1]; decide)
    obtain ⟨a5, i5, dx5, e5, g5⟩ := grp_i (j := 5) gr1 (by rw [n1]; decide)
    obtain ⟨a6, i6, dx6, e6, g6⟩ := grp_i (j := 6) gr1 (by rw [n1]; decide)
    obtain ⟨a7, i7, dx7, e7, g7⟩ := grp_i (j := 7) gr1 (by rw [n1]; decide)
    obtain ⟨a8, i8, dx8, e8, g8⟩ := grp_i (j := 0) gr2 (by rw [n2]; decide)
    obtain ⟨a9, i9, dx9, e9, g9⟩ := grp_i (j := 1) gr2 (by rw [n2]; decide)
    obtain ⟨a10, i10, dx10, e10, g10⟩ := grp_i (j := 2) gr2 (by rw [n2]; decide)
    obtain ⟨a11, i11, dx11, e11, g11⟩ := grp_i (j := 3) gr2 (by rw [n2]; decide)
    obtain ⟨a12, i12, dx12, e12, g12⟩ := grp_i (j := 4) gr2 (by rw [n2]; decide)
    obtain ⟨a13, i13, dx13, e13, g13⟩ := grp_i (j := 5) gr2 (by rw [n2]; decide)
    obtain ⟨a14, i14, dx14, e14, g14⟩ := grp_i (j := 6) gr2 (by rw [n2]; decide)
    obtain ⟨a15, i15, dx15, e15, g15⟩ := grp_i (j := 7) gr2 (by rw [n2]; decide)
    obtain ⟨a16, i16, dx16, e16, g16⟩ := grp_i (j := 8) gr2 (by rw [n2]; decide)
    obtain ⟨a17, i17, dx17, e17, g17⟩ := grp_i (j := 9) gr2 (by rw [n2]; decide)
    obtain ⟨a18, i18, dx18, e18, g18⟩ := grp_i (j := 10) gr2 (by rw [n2]; decide)
    obtain ⟨a19, i19, dx19, e19, g19⟩ := grp_i (j := 11) gr2 (by rw [n2]; decide)
    obtain ⟨a20, i20, dx20, e20, g20⟩ := grp_i (j := 12) gr2 (by rw [n2]; decide)
    obtain ⟨a21, i21, dx21, e21, g21⟩ := grp_i (j := 13) gr2 (by rw [n2]; decide)
    obtain ⟨a22, i22, dx22, e22, g22⟩ := grp_i (j := 14) gr2 (by rw [n2]; decide)
    obtain ⟨a23, i23, dx23, e23, g23⟩ := grp_i (j := 0) gr3 (by rw [n3]; decide)
    obtain ⟨a24, i24, dx24, e24, g24⟩ := grp_i (j := 1) gr3 (by rw [n3]; decide)
    obtain ⟨a25, i25, dx25, e25, g25⟩ := grp_i (j := 2) gr3 (by rw [n3]; decide)
    obtain ⟨a26, i26, dx26, e26, g26⟩ := grp_i (j := 3) gr3 (by rw [n3]; decide)
    obtain ⟨a27, i27, dx27, e27, g27⟩ := grp_i (j := 4) gr3 (by rw [n3]; decide)
    obtain ⟨a28, i28, dx28, e28, g28⟩ := grp_i (j := 5) gr3 (by rw [n3]; decide)
    refine ⟨_, rfl, r, _, _, _, rfl, rfl, .of hr0, rfl, _, rfl, r, _, _, _, rfl, rfl, .of hr0, rfl, _, rfl, r, _, _, _, rfl, rfl, .of hr0, rfl, _, _, _, rfl, ?_⟩
    clear gr1 gr2 gr3 n1 n2 n3
    generalize hH : H = H0 at *
    clear hH
    have S0 : Same H0 H0 := same_rf _
    refine ⟨_, rfl, m1, x1, 0, _, rfl, rfl, .of (S0 _ _ h1), i0, a0, c.CA 0, dx0, c.fA 0, _, _, _, _, _, rfl, T.t0, S0 _ _ e0, S0 _ _ g0, _, rfl, m1, x1, 1, _, rfl, rfl, .of (S0 _ _ h1), i1, a1, c.CA 1, dx1, c.fA 1, _, _, _, _, _, rfl, T.t1, S0 _ _ e1, S0 _ _ g1, _, rfl, m1, x1, 2, _, rfl, rfl, .of (S0 _ _ h1), i2, a2, c.CA 2, dx2, c.fA 2, _, _, _, _, _, rfl, T.t2, S0 _ _ e2, S0 _ _ g2, _, rfl, m1, x1, 3, _, rfl, rfl, .of (S0 _ _ h1), i3, a3, c.CA 3, dx3, c.fA 3, _, _, _, _, _, rfl, T.t3, S0 _ _ e3, S0 _ _ g3, _, rfl, m1, x1, 4, _, rfl, rfl, .of (S0 _ _ h1), i4, a4, c.CA 4, dx4, c.fA 4, _, _, _, _, _, rfl, T.t4, S0 _ _ e4, S0 _ _ g4, _, rfl, m1, x1, 5, _, rfl, rfl, .of (S0 _ _ h1), i5, a5, c.CA 5, dx5, c.fA 5, _, _, _, _, _, rfl, T.t5, S0 _ _ e5, S0 _ _ g5, ?_⟩
    refine ⟨by rw [sizeLine_eq]; show 6 ≤ 16777216; decide, fun l0 nn => ?_⟩
    generalize hG : upd H0 l0 _ = H1
    obtain ⟨s1, z1⟩ := same_of nn hG
    clear hG nn
    have S1 := same_tr S0 s1
    refine ⟨_, rfl, ?_⟩
    refine ⟨_, rfl, m1, x1, 6, _, rfl, rfl, .of (S1 _ _ h1), i6, a6, c.CA 6, dx6, c.fA 6, _, _, _, _, _, rfl, T.t6, S1 _ _ e6, S1 _ _ g6, _, rfl, m1, x1, 7, _, rfl, rfl, .of (S1 _ _ h1), i7, a7, c.CA 7, dx7, c.fA 7, _, _, _, _, _, rfl, T.t7, S1 _ _ e7, S1 _ _ g7, _, rfl, m2, x2, 0, _, rfl, rfl, .of (S1 _ _ h2), i8, a8, c.CA 8, dx8, c.fA 8, _, _, _, _, _, rfl, T.t8, S1 _ _ e8, S1 _ _ g8, _, rfl, m2, x2, 1, _, rfl, rfl, .of (S1 _ _ h2), i9, a9, c.CA 9, dx9, c.fA 9, _, _, _, _, _, rfl, T.t9, S1 _ _ e9, S1 _ _ g9, _, rfl, m2, x2, 2, _, rfl, rfl, .of (S1 _ _ h2), i10, a10, c.CA 10, dx10, c.fA 10, _, _, _, _, _, rfl, T.t10, S1 _ _ e10, S1 _ _ g10, ?_⟩
    refine ⟨by rw [sizeLine_eq]; show 5 ≤ 16777216; decide, fun l1 nn => ?_⟩
    generalize hG : upd H1 l1 _ = H2
    obtain ⟨s2, z2⟩ := same_of nn hG
    clear hG nn
    have S2 := same_tr S1 s2
    refine ⟨l0, l1, _, _, rfl, rfl, s2 _ _ z1, z2, by rw [sizeLine_eq]; show 11 ≤ 16777216; decide, fun p1 nn => ?_⟩
    generalize hG : upd H2 p1 _ = H3
    obtain ⟨s3, z3⟩ := same_of nn hG
    clear hG nn
    have S3 := same_tr S2 s3
    refine ⟨_, rfl, ?_⟩
    refine ⟨_, rfl, m2, x2, 3, _, rfl, rfl, .of (S3 _ _ h2), i11, a11, c.CA 11, dx11, c.fA 11, _, _, _, _, _, rfl, T.t11, S3 _ _ e11, S3 _ _ g11, _, rfl, m2, x2, 4, _, rfl, rfl, .of (S3 _ _ h2), i12, a12, c.CA 12, dx12, c.fA 12, _, _, _, _, _, rfl, T.t12, S3 _ _ e12, S3 _ _ g12, _, rfl, m2, x2, 5, _, rfl, rfl, .of (S3 _ _ h2), i13, a13, c.CA 13, dx13, c.fA 13, _, _, _, _, _, rfl, T.t13, S3 _ _ e13, S3 _ _ g13, _, rfl, m2, x2, 6, _, rfl, rfl, .of (S3 _ _ h2), i14, a14, c.CA 14, dx14, c.fA 14, _, _, _, _, _, rfl, T.t14, S3 _ _ e14, S3 _ _ g14, _, rfl, m2, x2, 7, _, rfl, rfl, .of (S3 _ _ h2), i15, a15, c.CA 15, dx15, c.fA 15, _, _, _, _, _, rfl, T.t15, S3 _ _ e15, S3 _ _ g15, ?_⟩
    refine ⟨by rw [sizeLine_eq]; show 5 ≤ 16777216; decide, fun l2 nn => ?_⟩
    generalize hG : upd H3 l2 _ = H4
    obtain ⟨s4, z4⟩ := same_of nn hG
    clear hG nn
    have S4 := same_tr S3 s4
    refine ⟨p1, l2, _, _, rfl, rfl, s4 _ _ z3, z4, by rw [sizeLine_eq]; show 16 ≤ 16777216; decide, fun p2 nn => ?_⟩
    generalize hG : upd H4 p2 _ = H5
    obtain ⟨s5, z5⟩ := same_of nn hG
    clear hG nn
    have S5 := same_tr S4 s5
    refine ⟨_, rfl, ?_⟩
    refine ⟨_, rfl, m2, x2, 8, _, rfl, rfl, .of (S5 _ _ h2), i16, a16, c.CA 16, dx16, c.fA 16, _, _, _, _, _, rfl, T.t16, S5 _ _ e16, S5 _ _ g16, _, rfl, m2, x2, 9, _, rfl, rfl, .of (S5 _ _ h2), i17, a17, c.CA 17, dx17, c.fA 17, _, _, _, _, _, rfl, T.t17, S5 _ _ e17, S5 _ _ g17, _, rfl, m2, x2, 10, _, rfl, rfl, .of (S5 _ _ h2), i18, a18, c.CA 18, dx18, c.fA 18, _, _, _, _, _, rfl, T.t18, S5 _ _ e18, S5 _ _ g18, _, rfl, m2, x2, 11, _, rfl, rfl, .of (S5 _ _ h2), i19, a19, c.CA 19, dx19, c.fA 19, _, _, _, _, _, rfl, T.t19, S5 _ _ e19, S5 _ _ g19, _, rfl, m2, x2, 12, _, rfl, rfl, .of (S5 _ _ h2), i20, a20, c.CA 20, dx20, c.fA 20, _, _, _, _, _, rfl, T.t20, S5 _ _ e20, S5 _ _ g20, ?_⟩
    refine ⟨by rw [sizeLine_eq]; show 5 ≤ 16777216; decide, fun l3 nn => ?_⟩
    generalize hG : upd H5 l3 _ = H6
    obtain ⟨s6, z6⟩ := same_of nn hG
    clear hG nn
    have S6 := same_tr S5 s6
    refine ⟨p2, l3, _, _, rfl, rfl, s6 _ _ z5, z6, by rw [sizeLine_eq]; show 21 ≤ 16777216; decide, fun p3 nn => ?_⟩
    generalize hG : upd H6 p3 _ = H7
    obtain ⟨s7, z7⟩ := same_of nn hG
    clear hG nn
    have S7 := same_tr S6 s7
    refine ⟨_, rfl, ?_⟩
    refine ⟨_, rfl, m2, x2, 13, _, rfl, rfl, .of (S7 _ _ h2), i21, a21, c.CA 21, dx21, c.fA 21, _, _, _, _, _, rfl, T.t21, S7 _ _ e21, S7 _ _ g21, _, rfl, m2, x2, 14, _, rfl, rfl, .of (S7 _ _ h2), i22, a22, c.CA 22, dx22, c.fA 22, _, _, _, _, _, rfl, T.t22, S7 _ _ e22, S7 _ _ g22, _, rfl, m3, x3, 0, _, rfl, rfl, .of (S7 _ _ h3), i23, a23, c.CA 23, dx23, c.fA 23, _, _, _, _, _, rfl, T.t23, S7 _ _ e23, S7 _ _ g23, _, rfl, m3, x3, 1, _, rfl, rfl, .of (S7 _ _ h3), i24, a24, c.CA 24, dx24, c.fA 24, _, _, _, _, _, rfl, T.t24, S7 _ _ e24, S7 _ _ g24, _, rfl, m3, x3, 2, _, rfl, rfl, .of (S7 _ _ h3), i25, a25, c.CA 25, dx25, c.fA 25, _, _, _, _, _, rfl, T.t25, S7 _ _ e25, S7 _ _ g25, ?_⟩
    refine ⟨by rw [sizeLine_eq]; show 5 ≤ 16777216; decide, fun l4 nn => ?_⟩
    generalize hG : upd H7 l4 _ = H8
    obtain ⟨s8, z8⟩ := same_of nn hG
    clear hG nn
    have S8 := same_tr S7 s8
    refine ⟨p3, l4, _, _, rfl, rfl, s8 _ _ z7, z8, by rw [sizeLine_eq]; show 26 ≤ 16777216; decide, fun p4 nn => ?_⟩
    generalize hG : upd H8 p4 _ = H9
    obtain ⟨s9, z9⟩ := same_of nn hG
    clear hG nn
    have S9 := same_tr S8 s9
    refine ⟨_, rfl, ?_⟩
    refine ⟨_, rfl, m3, x3, 3, _, rfl, rfl, .of (S9 _ _ h3), i26, a26, c.CA 26, dx26, c.fA 26, _, _, _, _, _, rfl, T.t26, S9 _ _ e26, S9 _ _ g26, _, rfl, m3, x3, 4, _, rfl, rfl, .of (S9 _ _ h3), i27, a27, c.CA 27, dx27, c.fA 27, _, _, _, _, _, rfl, T.t27, S9 _ _ e27, S9 _ _ g27, _, rfl, m3, x3, 5, _, rfl, rfl, .of (S9 _ _ h3), i28, a28, c.CA 28, dx28, c.fA 28, _, _, _, _, _, rfl, T.t28, S9 _ _ e28, S9 _ _ g28, ?_⟩
    refine ⟨by rw [sizeLine_eq]; show 3 ≤ 16777216; decide, fun l5 nn => ?_⟩
    generalize hG : upd H9 l5 _ = H10
    obtain ⟨s10, z10⟩ := same_of nn hG
    clear hG nn
    have S10 := same_tr S9 s10
    refine ⟨p4, l5, _, _, rfl, rfl, s10 _ _ z9, z10, by rw [sizeLine_eq]; show 29 ≤ 16777216; decide, fun p5 nn => ?_⟩
    generalize hG : upd H10 p5 _ = H11
    obtain ⟨s11, z11⟩ := same_of nn hG
    clear hG nn
    have S11 := same_tr S10 s11
    exact fin p5 H11 S11 z11
theorem scNa : FnScope ["what", "found"] ["what"] (defScope sNamed) := ⟨rfl, rfl, rfl, by decide +kernel, rfl, by decide +kernel, by decide +kernel⟩
set_option maxHeartbeats 40000000 in
theorem ok_named {f : Addr} {fd : FuncData} (F : Fun K "_law_named" "_law_named" sNamed f fd) (T : TxtC P K mg c) : FnG P w K mg base 3 f fd ["what"] (spNamed K c) := by
  refine okG F scNa (fun vs H Q E h => ?_) (fun cdv A outer s H vs Q E hr hgd h => ?_)
  · obtain ⟨x, d, rfl, _⟩ := h
    rfl
  · obtain ⟨x, d, rfl, hd, hf, fin⟩ := h
    refine ⟨_, pss_cons (ps_set (i := 1) scNa.nd rfl (Or.inl rfl) (pe_lst (pa_cons (pe_exf (pe_mkxK base_VE T.t0 fn_thing hr hgd rfl rfl T.g0 T.sup (pk_cons (pv 0) pk_nil))) (pa_cons (pe_exf (pe_mkxK base_VE T.t1 fn_name hr hgd rfl rfl T.g1 T.sup (pk_cons (pv 0) pk_nil))) (pa_cons (pe_exf (pe_mkxK base_VE T.t2 fn_pace hr hgd rfl rfl T.g2 T.sup (pk_cons (pv 0) pk_nil))) pa_nil)))))
      (pss_cons (ps_set (i := 1) scNa.nd rfl (Or.inl rfl) (pe_op op_cat (pv 1) (pe_lst (pa_cons (pe_exf (pe_mkxK base_VE T.t3 fn_amount hr hgd rfl rfl T.g3 T.sup (pk_cons (pv 0) pk_nil))) (pa_cons (pe_exf (pe_mkxK base_VE T.t4 fn_reading hr hgd rfl rfl T.g4 T.sup (pk_cons (pv 0) pk_nil))) pa_nil)))))
      (pss_cons (ps_set (i := 1) scNa.nd rfl (Or.inl rfl) (pe_op op_cat (pv 1) (pe_lst (pa_cons (pe_exf (pe_mkxK base_VE T.t5 fn_count hr hgd rfl rfl T.g5 T.sup (pk_cons (pv 0) pk_nil))) (pa_cons (pe_exf (pe_mkxK base_VE T.t6 fn_index hr hgd rfl rfl T.g6 T.sup (pk_cons (pv 0) pk_nil))) (pa_cons (pe_exf (pe_mkxK base_VE T.t7 fn_line hr hgd rfl rfl T.g7 T.sup (pk_cons (pv 0) pk_nil))) pa_nil))))))
      (pss_cons (ps_set (i := 1) scNa.nd rfl (Or.inl rfl) (pe_op op_cat (pv 1) (pe_lst (pa_cons (pe_exf (pe_mkxK base_RE T.t8 fn_name hr hgd rfl rfl T.g8 T.sup (pk_cons (pv 0) pk_nil))) (pa_cons (pe_exf (pe_mkxK base_RE T.t9 fn_room hr hgd rfl rfl T.g9 T.sup (pk_cons (pv 0) pk_nil))) (pa_cons (pe_exf (pe_mkxK base_RE T.t10 fn_room hr hgd rfl rfl T.g10 T.sup (pk_cons (pv 0) pk_nil))) pa_nil))))))
      (pss_cons (ps_set (i := 1) scNa.nd rfl (Or.inl rfl) (pe_op op_cat (pv 1) (pe_lst (pa_cons (pe_exf (pe_mkxK base_RE T.t11 fn_person hr hgd rfl rfl T.g11 T.sup (pk_cons (pv 0) pk_nil))) (pa_cons (pe_exf (pe_mkxK base_RE T.t12 fn_person hr hgd rfl rfl T.g12 T.sup (pk_cons (pv 0) pk_nil))) (pa_cons (pe_exf (pe_mkxK base_RE T.t13 fn_room hr hgd rfl rfl T.g13 T.sup (pk_cons (pv 0) pk_nil))) pa_nil))))))
      (pss_cons (ps_set (i := 1) scNa.nd rfl (Or.inl rfl) (pe_op op_cat (pv 1) (pe_lst (pa_cons (pe_exf (pe_mkxK base_RE T.t14 fn_name hr hgd rfl rfl T.g14 T.sup (pk_cons (pv 0) pk_nil))) (pa_cons (pe_exf (pe_mkxK base_RE T.t15 fn_room hr hgd rfl rfl T.g15 T.sup (pk_cons (pv 0) pk_nil))) (pa_cons (pe_exf (pe_mkxK base_RE T.t16 fn_limit hr hgd rfl rfl T.g16 T.sup (pk_cons (pv 0) pk_nil))) pa_nil))))))
      (pss_cons (ps_set (i := 1) scNa.nd rfl (Or.inl rfl) (pe_op op_cat (pv 1) (pe_lst (pa_cons (pe_exf (pe_mkxK base_RE T.t17 fn_limit hr hgd rfl rfl T.g17 T.sup (pk_cons (pv 0) pk_nil))) (pa_cons (pe_exf (pe_mkxK base_RE T.t18 fn_limit hr hgd rfl rfl T.g18 T.sup (pk_cons (pv 0) pk_nil))) (pa_cons (pe_exf (pe_mkxK base_RE T.t19 fn_person hr hgd rfl rfl T.g19 T.sup (pk_cons (pv 0) pk_nil))) pa_nil))))))
      (pss_cons (ps_set (i := 1) scNa.nd rfl (Or.inl rfl) (pe_op op_cat (pv 1) (pe_lst (pa_cons (pe_exf (pe_mkxK base_RE T.t20 fn_names hr hgd rfl rfl T.g20 T.sup (pk_cons (pv 0) pk_nil))) (pa_cons (pe_exf (pe_mkxK base_RE T.t21 fn_reason hr hgd rfl rfl T.g21 T.sup (pk_cons (pv 0) pk_nil))) (pa_cons (pe_exf (pe_mkxK base_RE T.t22 fn_person hr hgd rfl rfl T.g22 T.sup (pk_cons (pv 0) pk_nil))) pa_nil))))))
      (pss_cons (ps_set (i := 1) scNa.nd rfl (Or.inl rfl) (pe_op op_cat (pv 1) (pe_lst (pa_cons (pe_exf (pe_mkxK base_LE T.t23 fn_room hr hgd rfl rfl T.g23 T.sup (pk_cons (pv 0) pk_nil))) (pa_cons (pe_exf (pe_mkxK base_LE T.t24 fn_person hr hgd rfl rfl T.g24 T.sup (pk_cons (pv 0) pk_nil))) (pa_cons (pe_exf (pe_mkxK base_LE T.t25 fn_name hr hgd rfl rfl T.g25 T.sup (pk_cons (pv 0) pk_nil))) pa_nil))))))
      (pss_one (ps_ret (pe_op op_cat (pv 1) (pe_lst (pa_cons (pe_exf (pe_mkxK base_LE T.t26 fn_name hr hgd rfl rfl T.g26 T.sup (pk_cons (pv 0) pk_nil))) (pa_cons (pe_exf (pe_mkxK base_LE T.t27 fn_name hr hgd rfl rfl T.g27 T.sup (pk_cons (pv 0) pk_nil))) (pa_cons (pe_exf (pe_mkxK base_LE T.t28 fn_reading hr hgd rfl rfl T.g28 T.sup (pk_cons (pv 0) pk_nil))) pa_nil))))))))))))))), ?_⟩
    generalize hH : H = H0 at hd fin ⊢
    clear hH
    have S0 : Same H0 H0 := same_rf _
    refine ⟨_, rfl, x, d, rfl, dp_same S0 hd, hf, fun a0 dx0 n1 n2 ne => ?_⟩
    generalize hG : upd (upd H0 dx0 _) a0 _ = H1
    obtain ⟨s1, e0, g0⟩ := mk_of n1 n2 ne hG
    clear hG n1 n2 ne
    have S1 := same_tr S0 s1
    refine ⟨a0, c.CA 0, dx0, c.fA 0, _, _, _, _, _, rfl, T.t0, e0, g0, ?_⟩
    refine ⟨_, rfl, x, d, rfl, dp_same S1 hd, hf, fun a1 dx1 n1 n2 ne => ?_⟩
    generalize hG : upd (upd H1 dx1 _) a1 _ = H2
    obtain ⟨s2, e1, g1⟩ := mk_of n1 n2 ne hG
    clear hG n1 n2 ne
    have S2 := same_tr S1 s2
    refine ⟨a1, c.CA 1, dx1, c.fA 1, _, _, _, _, _, rfl, T.t1, e1, g1, ?_⟩
    refine ⟨_, rfl, x, d, rfl, dp_same S2 hd, hf, fun a2 dx2 n1 n2 ne => ?_⟩
    generalize hG : upd (upd H2 dx2 _) a2 _ = H3
    obtain ⟨s3, e2, g2⟩ := mk_of n1 n2 ne hG
    clear hG n1 n2 ne
    have S3 := same_tr S2 s3
    refine ⟨a2, c.CA 2, dx2, c.fA 2, _, _, _, _, _, rfl, T.t2, e2, g2, ?_⟩
    refine ⟨by rw [sizeLine_eq]; show 3 ≤ 16777216; decide, fun l0 nn => ?_⟩
    generalize hG : upd H3 l0 _ = H4
    obtain ⟨s4, z4⟩ := same_of nn hG
    clear hG nn
    have S4 := same_tr S3 s4
    refine ⟨_, rfl, ?_⟩
    refine ⟨_, rfl, x, d, rfl, dp_same S4 hd, hf, fun a3 dx3 n1 n2 ne => ?_⟩
    generalize hG : upd (upd H4 dx3 _) a3 _ = H5
    obtain ⟨s5, e3, g3⟩ := mk_of n1 n2 ne hG
    clear hG n1 n2 ne
    have S5 := same_tr S4 s5
    refine ⟨a3, c.CA 3, dx3, c.fA 3, _, _, _, _, _, rfl, T.t3, e3, g3, ?_⟩
    refine ⟨_, rfl, x, d, rfl, dp_same S5 hd, hf, fun a4 dx4 n1 n2 ne => ?_⟩
    generalize hG : upd (upd H5 dx4 _) a4 _ = H6
    obtain ⟨s6, e4, g4⟩ := mk_of n1 n2 ne hG
    clear hG n1 n2 ne
    have S6 := same_tr S5 s6
    refine ⟨a4, c.CA 4, dx4, c.fA 4, _, _, _, _, _, rfl, T.t4, e4, g4, ?_⟩
    refine ⟨by rw [sizeLine_eq]; show 2 ≤ 16777216; decide, fun l1 nn => ?_⟩
    generalize hG : upd H6 l1 _ = H7
    obtain ⟨s7, z7⟩ := same_of nn hG
    clear hG nn
    have S7 := same_tr S6 s7
    refine ⟨l0, l1, _, _, rfl, rfl, (same_tr s5 (same_tr s6 s7)) _ _ z4, z7, by rw [sizeLine_eq]; show 5 ≤ 16777216; decide, fun p1 nn => ?_⟩
    generalize hG : upd H7 p1 _ = H8
    obtain ⟨s8, z8⟩ := same_of nn hG
    clear hG nn
    have S8 := same_tr S7 s8
    refine ⟨_, rfl, ?_⟩
    refine ⟨_, rfl, x, d, rfl, dp_same S8 hd, hf, fun a5 dx5 n1 n2 ne => ?_⟩
    generalize hG : upd (upd H8 dx5 _) a5 _ = H9
    obtain ⟨s9, e5, g5⟩ := mk_of n1 n2 ne hG
    clear hG n1 n2 ne
    have S9 := same_tr S8 s9
    refine ⟨a5, c.CA 5, dx5, c.fA 5, _, _, _, _, _, rfl, T.t5, e5, g5, ?_⟩
    refine ⟨_, rfl, x, d, rfl, dp_same S9 hd, hf, fun a6 dx6 n1 n2 ne => ?_⟩
    generalize hG : upd (upd H9 dx6 _) a6 _ = H10
    obtain ⟨s10, e6, g6⟩ := mk_of n1 n2 ne hG
    clear hG n1 n2 ne
    have S10 := same_tr S9 s10
    refine ⟨a6, c.CA 6, dx6, c.fA 6, _, _, _, _, _, rfl, T.t6, e6, g6, ?_⟩
    refine ⟨_, rfl, x, d, rfl, dp_same S10 hd, hf, fun a7 dx7 n1 n2 ne => ?_⟩
    generalize hG : upd (upd H10 dx7 _) a7 _ = H11
    obtain ⟨s11, e7, g7⟩ := mk_of n1 n2 ne hG
    clear hG n1 n2 ne
    have S11 := same_tr S10 s11
    refine ⟨a7, c.CA 7, dx7, c.fA 7, _, _, _, _, _, rfl, T.t7, e7, g7, ?_⟩
    refine ⟨by rw [sizeLine_eq]; show 3 ≤ 16777216; decide, fun l2 nn => ?_⟩
    generalize hG : upd H11 l2 _ = H12
    obtain ⟨s12, z12⟩ := same_of nn hG
    clear hG nn
    have S12 := same_tr S11 s12
    refine ⟨p1, l2, _, _, rfl, rfl, (same_tr s9 (same_tr s10 (same_tr s11 s12))) _ _ z8, z12, by rw [sizeLine_eq]; show 8 ≤ 16777216; decide, fun p2 nn => ?_⟩
    generalize hG : upd H12 p2 _ = H13
    obtain ⟨s13, z13⟩ := same_of nn hG
    clear hG nn
    have S13 := same_tr S12 s13
    refine ⟨_, rfl, ?_⟩
    refine ⟨_, rfl, x, d, rfl, dp_same S13 hd, hf, fun a8 dx8 n1 n2 ne => ?_⟩
    generalize hG : upd (upd H13 dx8 _) a8 _ = H14
    obtain ⟨s14, e8, g8⟩ := mk_of n1 n2 ne hG
    clear hG n1 n2 ne
    have S14 := same_tr S13 s14
    refine ⟨a8, c.CA 8, dx8, c.fA 8, _, _, _, _, _, rfl, T.t8, e8, g8, ?_⟩
    refine ⟨_, rfl, x, d, rfl, dp_same S14 hd, hf, fun a9 dx9 n1 n2 ne => ?_⟩
    generalize hG : upd (upd H14 dx9 _) a9 _ = H15
    obtain ⟨s15, e9, g9⟩ := mk_of n1 n2 ne hG
    clear hG n1 n2 ne
    have S15 := same_tr S14 s15
    refine ⟨a9, c.CA 9, dx9, c.fA 9, _, _, _, _, _, rfl, T.t9, e9, g9, ?_⟩
    refine ⟨_, rfl, x, d, rfl, dp_same S15 hd, hf, fun a10 dx10 n1 n2 ne => ?_⟩
    generalize hG : upd (upd H15 dx10 _) a10 _ = H16
    obtain ⟨s16, e10, g10⟩ := mk_of n1 n2 ne hG
    clear hG n1 n2 ne
    have S16 := same_tr S15 s16
    refine ⟨a10, c.CA 10, dx10, c.fA 10, _, _, _, _, _, rfl, T.t10, e10, g10, ?_⟩
    refine ⟨by rw [sizeLine_eq]; show 3 ≤ 16777216; decide, fun l3 nn => ?_⟩
    generalize hG : upd H16 l3 _ = H17
    obtain ⟨s17, z17⟩ := same_of nn hG
    clear hG nn
    have S17 := same_tr S16 s17
    refine ⟨p2, l3, _, _, rfl, rfl, (same_tr s14 (same_tr s15 (same_tr s16 s17))) _ _ z13, z17, by rw [sizeLine_eq]; show 11 ≤ 16777216; decide, fun p3 nn => ?_⟩
    generalize hG : upd H17 p3 _ = H18
    obtain ⟨s18, z18⟩ := same_of nn hG
    clear hG nn
    have S18 := same_tr S17 s18
    refine ⟨_, rfl, ?_⟩
    refine ⟨_, rfl, x, d, rfl, dp_same S18 hd, hf, fun a11 dx11 n1 n2 ne => ?_⟩
    generalize hG : upd (upd H18 dx11 _) a11 _ = H19
    obtain ⟨s19, e11, g11⟩ := mk_of n1 n2 ne hG
    clear hG n1 n2 ne
    have S19 := same_tr S18 s19
    refine ⟨a11, c.CA 11, dx11, c.fA 11, _, _, _, _, _, rfl, T.t11, e11, g11, ?_⟩
    refine ⟨_, rfl, x, d, rfl, dp_same S19 hd, hf, fun a12 dx12 n1 n2 ne => ?_⟩
    generalize hG : upd (upd H19 dx12 _) a12 _ = H20
    obtain ⟨s20, e12, g12⟩ := mk_of n1 n2 ne hG
    clear hG n1 n2 ne
    have S20 := same_tr S19 s20
    refine ⟨a12, c.CA 12, dx12, c.fA 12, _, _, _, _, _, rfl, T.t12, e12, g12, ?_⟩
    refine ⟨_, rfl, x, d, rfl, dp_same S20 hd, hf, fun a13 dx13 n1 n2 ne => ?_⟩
    generalize hG : upd (upd H20 dx13 _) a13 _ = H21
    obtain ⟨s21, e13, g13⟩ := mk_of n1 n2 ne hG
    clear hG n1 n2 ne
    have S21 := same_tr S20 s21
    refine ⟨a13, c.CA 13, dx13, c.fA 13, _, _, _, _, _, rfl, T.t13, e13, g13, ?_⟩
    refine ⟨by rw [sizeLine_eq]; show 3 ≤ 16777216; decide, fun l4 nn => ?_⟩
    generalize hG : upd H21 l4 _ = H22
    obtain ⟨s22, z22⟩ := same_of nn hG
    clear hG nn
    have S22 := same_tr S21 s22
    refine ⟨p3, l4, _, _, rfl, rfl, (same_tr s19 (same_tr s20 (same_tr s21 s22))) _ _ z18, z22, by rw [sizeLine_eq]; show 14 ≤ 16777216; decide, fun p4 nn => ?_⟩
    generalize hG : upd H22 p4 _ = H23
    obtain ⟨s23, z23⟩ := same_of nn hG
    clear hG nn
    have S23 := same_tr S22 s23
    refine ⟨_, rfl, ?_⟩
    refine ⟨_, rfl, x, d, rfl, dp_same S23 hd, hf, fun a14 dx14 n1 n2 ne => ?_⟩
    generalize hG : upd (upd H23 dx14 _) a14 _ = H24
    obtain ⟨s24, e14, g14⟩ := mk_of n1 n2 ne hG
    clear hG n1 n2 ne
    have S24 := same_tr S23 s24
    refine ⟨a14, c.CA 14, dx14, c.fA 14, _, _, _, _, _, rfl, T.t14, e14, g14, ?_⟩
    refine ⟨_, rfl, x, d, rfl, dp_same S24 hd, hf, fun a15 dx15 n1 n2 ne => ?_⟩
    generalize hG : upd (upd H24 dx15 _) a15 _ = H25
    obtain ⟨s25, e15, g15⟩ := mk_of n1 n2 ne hG
    clear hG n1 n2 ne
    have S25 := same_tr S24 s25
    refine ⟨a15, c.CA 15, dx15, c.fA 15, _, _, _, _, _, rfl, T.t15, e15, g15, ?_⟩
    refine ⟨_, rfl, x, d, rfl, dp_same S25 hd, hf, fun a16 dx16 n1 n2 ne => ?_⟩
    generalize hG : upd (upd H25 dx16 _) a16 _ = H26
    obtain ⟨s26, e16, g16⟩ := mk_of n1 n2 ne hG
    clear hG n1 n2 ne
    have S26 := same_tr S25 s26
    refine ⟨a16, c.CA 16, dx16, c.fA 16, _, _, _, _, _, rfl, T.t16, e16, g16, ?_⟩
    refine ⟨by rw [sizeLine_eq]; show 3 ≤ 16777216; decide, fun l5 nn => ?_⟩
    generalize hG : upd H26 l5 _ = H27
    obtain ⟨s27, z27⟩ := same_of nn hG
    clear hG nn
    have S27 := same_tr S26 s27
    refine ⟨p4, l5, _, _, rfl, rfl, (same_tr s24 (same_tr s25 (same_tr s26 s27))) _ _ z23, z27, by rw [sizeLine_eq]; show 17 ≤ 16777216; decide, fun p5 nn => ?_⟩
    generalize hG : upd H27 p5 _ = H28
    obtain ⟨s28, z28⟩ := same_of nn hG
    clear hG nn
    have S28 := same_tr S27 s28
    refine ⟨_, rfl, ?_⟩
    refine ⟨_, rfl, x, d, rfl, dp_same S28 hd, hf, fun a17 dx17 n1 n2 ne => ?_⟩
    generalize hG : upd (upd H28 dx17 _) a17 _ = H29
    obtain ⟨s29, e17, g17⟩ := mk_of n1 n2 ne hG
    clear hG n1 n2 ne
    have S29 := same_tr S28 s29
    refine ⟨a17, c.CA 17, dx17, c.fA 17, _, _, _, _, _, rfl, T.t17, e17, g17, ?_⟩
    refine ⟨_, rfl, x, d, rfl, dp_same S29 hd, hf, fun a18 dx18 n1 n2 ne => ?_⟩
    generalize hG : upd (upd H29 dx18 _) a18 _ = H30
    obtain ⟨s30, e18, g18⟩ := mk_of n1 n2 ne hG
    clear hG n1 n2 ne
    have S30 := same_tr S29 s30
    refine ⟨a18, c.CA 18, dx18, c.fA 18, _, _, _, _, _, rfl, T.t18, e18, g18, ?_⟩
    refine ⟨_, rfl, x, d, rfl, dp_same S30 hd, hf, fun a19 dx19 n1 n2 ne => ?_⟩
    generalize hG : upd (upd H30 dx19 _) a19 _ = H31
    obtain ⟨s31, e19, g19⟩ := mk_of n1 n2 ne hG
    clear hG n1 n2 ne
    have S31 := same_tr S30 s31
    refine ⟨a19, c.CA 19, dx19, c.fA 19, _, _, _, _, _, rfl, T.t19, e19, g19, ?_⟩
    refine ⟨by rw [sizeLine_eq]; show 3 ≤ 16777216; decide, fun l6 nn => ?_⟩
    generalize hG : upd H31 l6 _ = H32
    obtain ⟨s32, z32⟩ := same_of nn hG
    clear hG nn
    have S32 := same_tr S31 s32
    refine ⟨p5, l6, _, _, rfl, rfl, (same_tr s29 (same_tr s30 (same_tr s31 s32))) _ _ z28, z32, by rw [sizeLine_eq]; show 20 ≤ 16777216; decide, fun p6 nn => ?_⟩
    generalize hG : upd H32 p6 _ = H33
    obtain ⟨s33, z33⟩ := same_of nn hG
    clear hG nn
    have S33 := same_tr S32 s33
    refine ⟨_, rfl, ?_⟩
    refine ⟨_, rfl, x, d, rfl, dp_same S33 hd, hf, fun a20 dx20 n1 n2 ne => ?_⟩
    generalize hG : upd (upd H33 dx20 _) a20 _ = H34
    obtain ⟨s34, e20, g20⟩ := mk_of n1 n2 ne hG
    clear hG n1 n2 ne
    have S34 := same_tr S33 s34
    refine ⟨a20, c.CA 20, dx20, c.fA 20, _, _, _, _, _, rfl, T.t20, e20, g20, ?_⟩
    refine ⟨_, rfl, x, d, rfl, dp_same S34 hd, hf, fun a21 dx21 n1 n2 ne => ?_⟩
    generalize hG : upd (upd H34 dx21 _) a21 _ = H35
    obtain ⟨s35, e21, g21⟩ := mk_of n1 n2 ne hG
    clear hG n1 n2 ne
    have S35 := same_tr S34 s35
    refine ⟨a21, c.CA 21, dx21, c.fA 21, _, _, _, _, _, rfl, T.t21, e21, g21, ?_⟩
    refine ⟨_, rfl, x, d, rfl, dp_same S35 hd, hf, fun a22 dx22 n1 n2 ne => ?_⟩
    generalize hG : upd (upd H35 dx22 _) a22 _ = H36
    obtain ⟨s36, e22, g22⟩ := mk_of n1 n2 ne hG
    clear hG n1 n2 ne
    have S36 := same_tr S35 s36
    refine ⟨a22, c.CA 22, dx22, c.fA 22, _, _, _, _, _, rfl, T.t22, e22, g22, ?_⟩
    refine ⟨by rw [sizeLine_eq]; show 3 ≤ 16777216; decide, fun l7 nn => ?_⟩
    generalize hG : upd H36 l7 _ = H37
    obtain ⟨s37, z37⟩ := same_of nn hG
    clear hG nn
    have S37 := same_tr S36 s37
    refine ⟨p6, l7, _, _, rfl, rfl, (same_tr s34 (same_tr s35 (same_tr s36 s37))) _ _ z33, z37, by rw [sizeLine_eq]; show 23 ≤ 16777216; decide, fun p7 nn => ?_⟩
    generalize hG : upd H37 p7 _ = H38
    obtain ⟨s38, z38⟩ := same_of nn hG
    clear hG nn
    have S38 := same_tr S37 s38
    refine ⟨_, rfl, ?_⟩
    refine ⟨_, rfl, x, d, rfl, dp_same S38 hd, hf, fun a23 dx23 n1 n2 ne => ?_⟩
    generalize hG : upd (upd H38 dx23 _) a23 _ = H39
    obtain ⟨s39, e23, g23⟩ := mk_of n1 n2 ne hG
    clear hG n1 n2 ne
    have S39 := same_tr S38 s39
    refine ⟨a23, c.CA 23, dx23, c.fA 23, _, _, _, _, _, rfl, T.t23, e23, g23, ?_⟩
    refine ⟨_, rfl, x, d, rfl, dp_same S39 hd, hf, fun a24 dx24 n1 n2 ne => ?_⟩
    generalize hG : upd (upd H39 dx24 _) a24 _ = H40
    obtain ⟨s40, e24, g24⟩ := mk_of n1 n2 ne hG
    clear hG n1 n2 ne
    have S40 := same_tr S39 s40
    refine ⟨a24, c.CA 24, dx24, c.fA 24, _, _, _, _, _, rfl, T.t24, e24, g24, ?_⟩
    refine ⟨_, rfl, x, d, rfl, dp_same S40 hd, hf, fun a25 dx25 n1 n2 ne => ?_⟩
    generalize hG : upd (upd H40 dx25 _) a25 _ = H41
    obtain ⟨s41, e25, g25⟩ := mk_of n1 n2 ne hG
    clear hG n1 n2 ne
    have S41 := same_tr S40 s41
    refine ⟨a25, c.CA 25, dx25, c.fA 25, _, _, _, _, _, rfl, T.t25, e25, g25, ?_⟩
    refine ⟨by rw [sizeLine_eq]; show 3 ≤ 16777216; decide, fun l8 nn => ?_⟩
    generalize hG : upd H41 l8 _ = H42
    obtain ⟨s42, z42⟩ := same_of nn hG
    clear hG nn
    have S42 := same_tr S41 s42
    refine ⟨p7, l8, _, _, rfl, rfl, (same_tr s39 (same_tr s40 (same_tr s41 s42))) _ _ z38, z42, by rw [sizeLine_eq]; show 26 ≤ 16777216; decide, fun p8 nn => ?_⟩
    generalize hG : upd H42 p8 _ = H43
    obtain ⟨s43, z43⟩ := same_of nn hG
    clear hG nn
    have S43 := same_tr S42 s43
    refine ⟨_, rfl, ?_⟩
    refine ⟨_, rfl, x, d, rfl, dp_same S43 hd, hf, fun a26 dx26 n1 n2 ne => ?_⟩
    generalize hG : upd (upd H43 dx26 _) a26 _ = H44
    obtain ⟨s44, e26, g26⟩ := mk_of n1 n2 ne hG
    clear hG n1 n2 ne
    have S44 := same_tr S43 s44
    refine ⟨a26, c.CA 26, dx26, c.fA 26, _, _, _, _, _, rfl, T.t26, e26, g26, ?_⟩
    refine ⟨_, rfl, x, d, rfl, dp_same S44 hd, hf, fun a27 dx27 n1 n2 ne => ?_⟩
    generalize hG : upd (upd H44 dx27 _) a27 _ = H45
    obtain ⟨s45, e27, g27⟩ := mk_of n1 n2 ne hG
    clear hG n1 n2 ne
    have S45 := same_tr S44 s45
    refine ⟨a27, c.CA 27, dx27, c.fA 27, _, _, _, _, _, rfl, T.t27, e27, g27, ?_⟩
    refine ⟨_, rfl, x, d, rfl, dp_same S45 hd, hf, fun a28 dx28 n1 n2 ne => ?_⟩
    generalize hG : upd (upd H45 dx28 _) a28 _ = H46
    obtain ⟨s46, e28, g28⟩ := mk_of n1 n2 ne hG
    clear hG n1 n2 ne
    have S46 := same_tr S45 s46
    refine ⟨a28, c.CA 28, dx28, c.fA 28, _, _, _, _, _, rfl, T.t28, e28, g28, ?_⟩
    refine ⟨by rw [sizeLine_eq]; show 3 ≤ 16777216; decide, fun l9 nn => ?_⟩
    generalize hG : upd H46 l9 _ = H47
    obtain ⟨s47, z47⟩ := same_of nn hG
    clear hG nn
    have S47 := same_tr S46 s47
    refine ⟨p8, l9, _, _, rfl, rfl, (same_tr s44 (same_tr s45 (same_tr s46 s47))) _ _ z43, z47, by rw [sizeLine_eq]; show 29 ≤ 16777216; decide, fun p9 nn => ?_⟩
    generalize hG : upd H47 p9 _ = H48
    obtain ⟨s48, z48⟩ := same_of nn hG
    clear hG nn
    have S48 := same_tr S47 s48
    exact fin p9 H48 S48 z48
end
end K1
set_option Elab.async false
set_option linter.all false
set_option maxRecDepth 100000
set_option maxHeartbeats 4000000
set_option exponentiation.threshold 100000
namespace K1
open PySem PySem.Spec PyProof.Rows L2 RmX Rm
abbrev sLaw : Stmt := top 42
abbrev sTurn : List Stmt := loopOf ((defBody sLaw).getD 1 (.Pass ⟨0, 0, 0, 0⟩))
abbrev nL : List Str := ["script", "draw", "turn", "many", "what"]
theorem scLw : FnScope nL ["script"] (defScope sLaw) := ⟨rfl, rfl, rfl, by decide +kernel, rfl, by decide +kernel, by decide +kernel⟩
structure Wt (d : PyData) : Prop where
  fit : Fit d
  fit29 : Fit (.list [d, d, d, d, d, d, d, d, d, d, d, d, d, d, d, d, d, d, d, d, d, d, d, d, d, d, d, d, d])
theorem wt_by {d : PyData} (h1 : d.showable = true) (h2 : d.hasDict = false) (h3 : d.depth ≤ 3) (h4 : cst d ≤ 10000) : Wt d := by
  refine ⟨fit_of h1 h2 (by omega) (by omega), fit_of ?_ ?_ ?_ ?_⟩
  · simp only [PyData.showable, PyData.showableAll, h1]; rfl
  · simp only [PyData.hasDict, PyData.hasDictAll, h2]; rfl
  · simp only [PyData.depth, PyData.depthAll]; omega
  · simp only [cst, cstAll]; omega
theorem sh_s {i : Int} (h : i.natAbs < 2000) : (PyData.int i).showable = true := sh_int (Nat.lt_of_lt_of_le h (Nat.le_trans (show 2000 ≤ 2 ^ 11 by decide) (Nat.pow_le_pow_right (by decide) (by decide))))
theorem wt_i {i : Int} (h : i.natAbs < 2000) : Wt (.int i) := wt_by (sh_s h) rfl (by simp [PyData.depth]) (by simp [cst])
theorem wt_t {i : Int} (h : i.natAbs < 2000) : Wt (.tuple [.int i, .int 7]) := by
  have h1 := sh_s h
  have h2 := sh_s (show Int.natAbs 7 < 2000 by decide)
  refine wt_by ?_ (by simp [PyData.hasDict, PyData.hasDictAll]) (by simp [PyData.depth, PyData.depthAll]) (by simp [cst, cstAll])
  simp only [PyData.showable, PyData.showableAll] at h1 h2 ⊢
  rw [h1, h2]
  rfl
theorem wt_l {i : Int} (h : i.natAbs < 2000) : Wt (.list [.int i]) := by
  have h1 := sh_s h
  refine wt_by ?_ (by simp [PyData.hasDict, PyData.hasDictAll]) (by simp [PyData.depth, PyData.depthAll]) (by simp [cst, cstAll])
  simp only [PyData.showable, PyData.showableAll] at h1 ⊢
  simp [h1]
theorem made_ok {K : PySem.W.Frag} {c : Adr} {H : Hp} {x : V} {d : PyData} {Q : VK} {E : XK} (hd : Dp K H x d) (hf : Fit d) (h : ∀ r H', Same H H' → MadeAt c H' r x → Q (.ref r) H') : Bx (spMade K c [x] H Q E) := ⟨⟨x, d, rfl, hd, hf, h⟩⟩
theorem fam_ok {c : Adr} {H : Hp} {r : Addr} {x : V} {Q : VK} {E : XK} (m : MadeAt c H r x) (h : ∀ H', Same H H' → Q (.bl true) H') : Bx (spFam c [.ref r] H Q E) := ⟨⟨r, x, rfl, m, h⟩⟩
theorem fields_ok {c : Adr} {H : Hp} {r : Addr} {x : V} {Q : VK} {E : XK} (m : MadeAt c H r x) (h : ∀ l H', Same H H' → H' l = some (.lst [x, x, x, x, x, x, x, x, x, x, x, x, x, x, x, x, x, x, x, x, x, x, x, x, x, x, x, x, x]) → Q (.ref l) H') : Bx (spFields c [.ref r] H Q E) := ⟨⟨r, x, rfl, m, h⟩⟩
theorem named_ok {K : PySem.W.Frag} {c : Adr} {H : Hp} {x : V} {d : PyData} {Q : VK} {E : XK} (hd : Dp K H x d) (hf : Fit d) (h : ∀ l H', Same H H' → H' l = some (.lst [x, x, x, x, x, x, x, x, x, x, x, x, x, x, x, x, x, x, x, x, x, x, x, x, x, x, x, x, x]) → Q (.ref l) H') : Bx (spNamed K c [x] H Q E) := ⟨⟨x, d, rfl, hd, hf, h⟩⟩
theorem begin_ok {K : PySem.W.Frag} {H : Hp} {a : Addr} {ns : List Int} {Q : VK} {E : XK} (hS : SqL K H a (ns.map V.int)) (hl : ns.length ≤ 63) (h : ∀ p c H', DrawAt H' p c 0 → Same H H' → Q (.ref p) H') : Bx (spBegin K [.ref a] H Q E) :=
  ⟨⟨a, ns, rfl, hS, hl, h⟩⟩
theorem DrawAt.neL {H : Hp} {p c a : Addr} {n : Nat} {xs : List V} (d : DrawAt H p c n) (h : H a = some (.lst xs)) : a ≠ p := by
  obtain ⟨_, _, _, _, hp, _⟩ := d
  exact ne_of h hp (by intro z; cases z)
theorem dp_kp {K : PySem.W.Frag} {H H' : Hp} {p c : Addr} {n : Nat} (D : DrawAt H p c n) (kp : Kp p H H') : ∀ {d : PyData} {x : V}, Dp K H x d → Dp K H' x d := by
  obtain ⟨_, _, _, _, hp, _⟩ := D
  have sl : ∀ {a : Addr} {xs : List V}, SqL K H a xs → SqL K H' a xs := fun {a xs} h => by
    rcases h with (h | ⟨o, h⟩) | h
    · exact .inl (.inl (kp _ _ h (ne_of h hp (by intro z; cases z))))
    · exact .inl (.inr ⟨o, kp _ _ h (ne_of h hp (by intro z; cases z))⟩)
    · exact .inr h
  have st : ∀ {a : Addr} {xs : List V}, SqT K H a xs → SqT K H' a xs := fun {a xs} h => by
    rcases h with (h | ⟨o, h⟩) | h
    · exact .inl (.inl (kp _ _ h (ne_of h hp (by intro z; cases z))))
    · exact .inl (.inr ⟨o, kp _ _ h (ne_of h hp (by intro z; cases z))⟩)
    · exact .inr h
  intro d x h
  exact Dp.rec (motive_1 := fun x d _ => Dp K H' x d) (motive_2 := fun xs ds _ => DpAll K H' xs ds) .non .bl .int .str (fun h1 _ ih => .lst (sl h1) ih) (fun h1 _ ih => .tup (st h1) ih) .nil (fun _ _ i1 i2 => .cons i1 i2) h
def spLaw (K : PySem.W.Frag) : Sp := fun vs H Q _ => ∃ (a : Addr) (ns : List Int), vs = [.ref a] ∧ SqL K H a (ns.map V.int) ∧ ns.length ≤ 63 ∧ ∀ H', Q (.bl true) H'
section
variable {P : Program} {w : World} {K : PySem.W.Frag} {mg : Str → Option Value} {base : Heap} {c : Adr} {fNx aMa aFm aFi aNa aB : Addr} {fdNx dMa dFm dFi dNa dB : FuncData}
theorem tailT {f : Addr} {cdv : Value} {A : Around} {outer : List Env} {s : Shared} {H : Hp} {Q : VK} {E : XK} (B : TxtB mg) (hr : Room 3 (A.deeper (envOfC "law" (defScope sLaw) s.heap.objs.size f cdv))) (hgd : A.guards = some []) (cMa : Cal P w K mg base "_law_made" aMa dMa 3 ["what"] (bx (spMade K c))) (cFm : Cal P w K mg base "_law_families_right" aFm dFm 2 ["made"] (bx (spFam c)))
    (cFi : Cal P w K mg base "_law_fields" aFi dFi 1 ["made"] (bx (spFields c))) (cNa : Cal P w K mg base "_law_named" aNa dNa 3 ["what"] (bx (spNamed K c))) :
    ∃ u, PSs (cxOf (L2.CX P w) P w K mg base nL "law" (defScope sLaw) f cdv A outer s H E) (sTurn.drop 2) u ∧ ∀ (D : Ends) (H1 : Hp) (x : V) (d : PyData) (b0 b1 b2 b3 : Option V) (hd : Dp K H1 x d) (wt : Wt d)
      (fin : ∀ H', Same H1 H' → D.nx [b0, b1, b2, b3, some x] H'), u D [b0, b1, b2, b3, some x] H1 := by
  refine ⟨_, pss_cons (ps_if (pt_not (pt_val (pe_cal cFm (hr.mono (by decide)) hgd (pa_cons (pe_cal cMa (hr.mono (by decide)) hgd (pa_cons (pv 4) pa_nil)) pa_nil)))) (pss_one (ps_ret pe_bl)) pss_nil)
      (pss_one (ps_if (PW.pt (pw_or (pt_cmpR op_ne (pe_callB (call_rep hr hgd) (by rfl) B.rep (by decide +kernel) (pa_cons (pe_cal cFi (hr.mono (by decide)) hgd (pa_cons (pe_cal cMa (hr.mono (by decide)) hgd (pa_cons (pv 4) pa_nil)) pa_nil)) pa_nil)) (pe_callB (call_rep hr hgd) (by rfl) B.rep (by decide +kernel) (pa_cons (pe_op op_rep (pe_lst (pa_cons (pv 4) pa_nil)) pe_int) pa_nil)) (nomark _)) (pw_or1 (pt_cmpR op_ne (pe_callB (call_rep hr hgd) (by rfl) B.rep (by decide +kernel) (pa_cons (pe_cal cNa (hr.mono (by decide)) hgd (pa_cons (pv 4) pa_nil)) pa_nil)) (pe_callB (call_rep hr hgd) (by rfl) B.rep (by decide +kernel) (pa_cons (pe_op op_rep (pe_lst (pa_cons (pv 4) pa_nil)) pe_int) pa_nil)) (nomark _))))) (pss_one (ps_ret pe_bl)) pss_nil)), ?_⟩
  intro D H1 x d b0 b1 b2 b3 hd wt fin
  refine ⟨_, rfl, made_ok hd wt.fit fun r H2 s2 m2 => ?_⟩
  refine fam_ok m2 fun H3 s3 => ⟨_, rfl, iteF ?_⟩
  have S3 := same_tr s2 s3
  have d3 := dp_same S3 hd
  refine ⟨_, rfl, made_ok d3 wt.fit fun r4 H4 s4 m4 => ?_⟩
  refine fields_ok m4 fun l5 H5 s5 z5 => ?_
  have S5 := same_tr S3 (same_tr s4 s5)
  have d5 := dp_same S5 hd
  refine rep_ok (d := .list [d, d, d, d, d, d, d, d, d, d, d, d, d, d, d, d, d, d, d, d, d, d, d, d, d, d, d, d, d]) (.lst (.of z5) (.cons d5 (.cons d5 (.cons d5 (.cons d5 (.cons d5 (.cons d5 (.cons d5 (.cons d5 (.cons d5 (.cons d5 (.cons d5 (.cons d5 (.cons d5 (.cons d5 (.cons d5 (.cons d5 (.cons d5 (.cons d5 (.cons d5 (.cons d5 (.cons d5 (.cons d5 (.cons d5 (.cons d5 (.cons d5 (.cons d5 (.cons d5 (.cons d5 (.cons d5 .nil)))))))))))))))))))))))))))))) wt.fit29 ?_
  refine ⟨_, rfl, ?_⟩
  refine ⟨by rw [sizeLine_eq]; show 1 ≤ 16777216; decide, fun l6 nn => ?_⟩
  generalize hG : upd H5 l6 _ = H6
  obtain ⟨sH6, zH6⟩ := same_of nn hG
  clear hG nn
  refine ⟨l6, 29, _, rfl, rfl, zH6, by decide, by decide, by rw [sizeLine_eq]; show 29 ≤ 16777216; decide, fun p7 nn => ?_⟩
  generalize hG : upd H6 p7 _ = H7
  obtain ⟨sH7, zH7⟩ := same_of nn hG
  clear hG nn
  have S7 := same_tr S5 (same_tr sH6 sH7)
  have d7 := dp_same S7 hd
  refine rep_ok (d := .list [d, d, d, d, d, d, d, d, d, d, d, d, d, d, d, d, d, d, d, d, d, d, d, d, d, d, d, d, d]) (.lst (.of zH7) (.cons d7 (.cons d7 (.cons d7 (.cons d7 (.cons d7 (.cons d7 (.cons d7 (.cons d7 (.cons d7 (.cons d7 (.cons d7 (.cons d7 (.cons d7 (.cons d7 (.cons d7 (.cons d7 (.cons d7 (.cons d7 (.cons d7 (.cons d7 (.cons d7 (.cons d7 (.cons d7 (.cons d7 (.cons d7 (.cons d7 (.cons d7 (.cons d7 (.cons d7 .nil)))))))))))))))))))))))))))))) wt.fit29 ?_
  refine ⟨rfl, _, rfl, iteNS rfl ?_⟩
  refine ⟨_, rfl, named_ok d7 wt.fit fun l8 H8 s8 z8 => ?_⟩
  have S8 := same_tr S7 s8
  have d8 := dp_same S8 hd
  refine rep_ok (d := .list [d, d, d, d, d, d, d, d, d, d, d, d, d, d, d, d, d, d, d, d, d, d, d, d, d, d, d, d, d]) (.lst (.of z8) (.cons d8 (.cons d8 (.cons d8 (.cons d8 (.cons d8 (.cons d8 (.cons d8 (.cons d8 (.cons d8 (.cons d8 (.cons d8 (.cons d8 (.cons d8 (.cons d8 (.cons d8 (.cons d8 (.cons d8 (.cons d8 (.cons d8 (.cons d8 (.cons d8 (.cons d8 (.cons d8 (.cons d8 (.cons d8 (.cons d8 (.cons d8 (.cons d8 (.cons d8 .nil)))))))))))))))))))))))))))))) wt.fit29 ?_
  refine ⟨_, rfl, ?_⟩
  refine ⟨by rw [sizeLine_eq]; show 1 ≤ 16777216; decide, fun l9 nn => ?_⟩
  generalize hG : upd H8 l9 _ = H9
  obtain ⟨sH9, zH9⟩ := same_of nn hG
  clear hG nn
  refine ⟨l9, 29, _, rfl, rfl, zH9, by decide, by decide, by rw [sizeLine_eq]; show 29 ≤ 16777216; decide, fun p10 nn => ?_⟩
  generalize hG : upd H9 p10 _ = H10
  obtain ⟨sH10, zH10⟩ := same_of nn hG
  clear hG nn
  have S10 := same_tr S8 (same_tr sH9 sH10)
  have d10 := dp_same S10 hd
  refine rep_ok (d := .list [d, d, d, d, d, d, d, d, d, d, d, d, d, d, d, d, d, d, d, d, d, d, d, d, d, d, d, d, d]) (.lst (.of zH10) (.cons d10 (.cons d10 (.cons d10 (.cons d10 (.cons d10 (.cons d10 (.cons d10 (.cons d10 (.cons d10 (.cons d10 (.cons d10 (.cons d10 (.cons d10 (.cons d10 (.cons d10 (.cons d10 (.cons d10 (.cons d10 (.cons d10 (.cons d10 (.cons d10 (.cons d10 (.cons d10 (.cons d10 (.cons d10 (.cons d10 (.cons d10 (.cons d10 (.cons d10 .nil)))))))))))))))))))))))))))))) wt.fit29 ?_
  exact ⟨rfl, _, rfl, iteNS rfl (fin _ S10)⟩
theorem ok_law {f : Addr} {fd : FuncData} (F : Fun K "law" "law" sLaw f fd) (B : TxtB mg) (gNx : mg "_law_next" = some (.ref fNx)) (kNx : PySem.W.keepIn K (.ref fNx) = true) (GN : FnG P w K mg base 2 fNx fdNx ["draw", "bound"] spNext) (bN : Binds K fdNx ["draw", "bound"] [])
    (cMa : Cal P w K mg base "_law_made" aMa dMa 3 ["what"] (bx (spMade K c))) (cFm : Cal P w K mg base "_law_families_right" aFm dFm 2 ["made"] (bx (spFam c)))
    (cFi : Cal P w K mg base "_law_fields" aFi dFi 1 ["made"] (bx (spFields c))) (cNa : Cal P w K mg base "_law_named" aNa dNa 3 ["what"] (bx (spNamed K c))) (cB : Cal P w K mg base "_law_begin" aB dB 1 ["script"] (bx (spBegin K))) : FnG P w K mg base 4 f fd ["script"] (spLaw K) := by
  refine okG F scLw (fun vs H Q E h => ?_) (fun cdv A outer s H vs Q E hr hgd h => ?_)
  · obtain ⟨a, ns, rfl, _⟩ := h
    rfl
  · obtain ⟨a, ns, rfl, hS, hl, fin⟩ := h
    obtain ⟨uT, hT, kT⟩ := tailT (outer := outer) (s := s) (H := H) (Q := Q) (E := E) (f := f) (cdv := cdv) B hr hgd cMa cFm cFi cNa
    refine ⟨_, pss_cons (ps_set (i := 1) scLw.nd rfl (Or.inl rfl) (pe_cal cB (hr.mono (by decide)) hgd (pa_cons (pv 0) pa_nil)))
      (pss_cons (ps_for PassesOwn.leaving rfl (pi_range1 rfl B.range (pa_cons (pe_callB (call_min2 rfl) (by rfl) B.min (by decide +kernel) (pa_cons pe_int (pa_cons (pe_op op_add pe_int (pe_callB call_len_seq (by rfl) B.len PySem.boot_len (pa_cons (pv 0) pa_nil))) pa_nil))) pa_nil)) (pg_name (i := 2) scLw.nd rfl (Or.inl rfl)) (pss_cons (ps_set (i := 3) scLw.nd rfl (Or.inl rfl) (pe_op op_sub (pe_callG (E := fun _ => E0) GN (hr.mono (by decide)) hgd rfl gNx kNx bN .nil pass0G (pa_cons (pv 1) (pa_cons pe_int pa_nil))) pe_int))
      (pss_cons (ps_set (i := 4) scLw.nd rfl (Or.inl rfl) (pe_ix ix_list (pe_lst (pa_cons pe_non (pa_cons (pv 3) (pa_cons pe_str (pa_cons (pe_tup (pa_cons (pv 3) (pa_cons pe_int pa_nil))) (pa_cons (pe_lst (pa_cons (pv 3) pa_nil)) (pa_cons (pe_tup (pa_cons pe_str (pa_cons pe_str (pa_cons pe_str pa_nil)))) (pa_cons pe_str (pa_cons pe_bl pa_nil))))))))) (pe_callG (E := fun _ => E0) GN (hr.mono (by decide)) hgd rfl gNx kNx bN .nil pass0G (pa_cons (pv 1) (pa_cons pe_int pa_nil))) (fun _ _ => rfl)))
      (hT))))
      (pss_one (ps_ret pe_bl))), ?_⟩
    refine ⟨_, rfl, begin_ok hS hl fun p q H1 D1 s1 => ?_⟩
    refine ⟨_, rfl, a, _, rfl, .inl (s1.seq hS), _, _, rfl, rfl, _, _, rfl, ?_⟩
    generalize hj : (if (3 + (((ns.map V.int).length : Nat) : Int)) < 12 then (3 + (((ns.map V.int).length : Nat) : Int)) else 12) = n
    have n0 : 0 ≤ n ∧ n ≤ 12 := by
      rw [← hj]
      split <;> omega
    refine ⟨n, rfl, by omega, by omega, for_range (lo := 0) (n := n.toNat) (fun i σ H' => ∃ k2 k3 k4 : Option V, σ = [some (.ref a), some (.ref p), k2, k3, k4] ∧ DrawAt H' p q (2 * i)) ⟨_, _, _, rfl, D1⟩ (fun i σ H' hi hP => ?_) (fun σ H' hP => fin H')⟩
    obtain ⟨k2, k3, k4, rfl, D'⟩ := hP
    refine ⟨_, rfl, p, q, _, _, rfl, D', by omega, by decide, by decide, fun r0 H2 r00 r01 D2 K2 _ => ?_⟩
    refine ⟨_, _, rfl, rfl, ?_⟩
    have hm : (r0 - 1000).natAbs < 2000 := by omega
    refine ⟨_, rfl, _, rfl, ?_⟩
    refine ⟨by rw [sizeLine_eq]; show 2 ≤ 16777216; decide, fun t3 nn => ?_⟩
    generalize hG : upd H2 t3 _ = H3
    obtain ⟨s3, z3⟩ := same_of nn hG
    clear hG nn
    refine ⟨_, rfl, ?_⟩
    refine ⟨by rw [sizeLine_eq]; show 1 ≤ 16777216; decide, fun l4 nn => ?_⟩
    generalize hG : upd H3 l4 _ = H4
    obtain ⟨s4, z4⟩ := same_of nn hG
    clear hG nn
    refine ⟨by rw [sizeLine_eq]; show 3 ≤ 16777216; decide, fun t5 nn => ?_⟩
    generalize hG : upd H4 t5 _ = H5
    obtain ⟨s5, z5⟩ := same_of nn hG
    clear hG nn
    refine ⟨by rw [sizeLine_eq]; show 8 ≤ 16777216; decide, fun l6 nn => ?_⟩
    generalize hG : upd H5 l6 _ = H6
    obtain ⟨s6, z6⟩ := same_of nn hG
    clear hG nn
    have S6 := same_tr s3 (same_tr s4 (same_tr s5 s6))
    have D6 := D2.same S6
    refine ⟨_, rfl, p, q, _, _, rfl, D6, by omega, by decide, by decide, fun r HN r1 r2 DN KN _ => ?_⟩
    have hl : SqL K HN l6 _ := .of (KN _ _ z6 (D6.neL z6))
    have mv : ∀ {d : PyData} {x : V}, Dp K H6 x d → Dp K HN x d := fun h => dp_kp D6 KN h
    have go := fun (x : V) (d : PyData) (hx : Dp K HN x d) (wt : Wt d) (D : Ends) (b0 b2 b3 : Option V) (fin) => kT D HN x d b0 (some (.ref p)) b2 b3 hx wt fin
    have KD : ∀ H', Same HN H' → DrawAt H' p q (2 * (i + 1)) := fun H' s' => (DN.same s').mono (by omega)
    rcases (by omega : r = 0 ∨ r = 1 ∨ r = 2 ∨ r = 3 ∨ r = 4 ∨ r = 5 ∨ r = 6 ∨ r = 7) with z | z | z | z | z | z | z | z
    · subst z
      exact ⟨l6, _, 0, _, rfl, rfl, hl, rfl, go _ .none .non (wt_by (by decide +kernel) (by decide +kernel) (by decide +kernel) (by decide +kernel)) _ _ _ _ fun H2 s2 => ⟨_, _, _, rfl, KD _ s2⟩⟩
    · subst z
      exact ⟨l6, _, 1, _, rfl, rfl, hl, rfl, go _ (.int (r0 - 1000)) (.int (r0 - 1000)) (wt_i hm) _ _ _ _ fun H2 s2 => ⟨_, _, _, rfl, KD _ s2⟩⟩
    · subst z
      exact ⟨l6, _, 2, _, rfl, rfl, hl, rfl, go _ (.str (Str.ofString "hall")) (.str _) (wt_by (by decide +kernel) (by decide +kernel) (by decide +kernel) (by decide +kernel)) _ _ _ _ fun H2 s2 => ⟨_, _, _, rfl, KD _ s2⟩⟩
    · subst z
      exact ⟨l6, _, 3, _, rfl, rfl, hl, rfl, go _ (.tuple [.int (r0 - 1000), .int 7]) (mv (dp_same (same_tr s4 (same_tr s5 s6)) (.tup (.of z3) (.cons (.int (r0 - 1000)) (.cons (.int 7) .nil))))) (wt_t hm) _ _ _ _ fun H2 s2 => ⟨_, _, _, rfl, KD _ s2⟩⟩
    · subst z
      exact ⟨l6, _, 4, _, rfl, rfl, hl, rfl, go _ (.list [.int (r0 - 1000)]) (mv (dp_same (same_tr s5 s6) (.lst (.of z4) (.cons (.int (r0 - 1000)) .nil)))) (wt_l hm) _ _ _ _ fun H2 s2 => ⟨_, _, _, rfl, KD _ s2⟩⟩
    · subst z
      exact ⟨l6, _, 5, _, rfl, rfl, hl, rfl, go _ (.tuple [.str (Str.ofString "apart"), .str (Str.ofString "a"), .str (Str.ofString "b")]) (mv (dp_same s6 (.tup (.of z5) (.cons (.str _) (.cons (.str _) (.cons (.str _) .nil)))))) (wt_by (by decide +kernel) (by decide +kernel) (by decide +kernel) (by decide +kernel)) _ _ _ _ fun H2 s2 => ⟨_, _, _, rfl, KD _ s2⟩⟩
    · subst z
      exact ⟨l6, _, 6, _, rfl, rfl, hl, rfl, go _ (.str (Str.ofString "")) (.str _) (wt_by (by decide +kernel) (by decide +kernel) (by decide +kernel) (by decide +kernel)) _ _ _ _ fun H2 s2 => ⟨_, _, _, rfl, KD _ s2⟩⟩
    · subst z
      exact ⟨l6, _, 7, _, rfl, rfl, hl, rfl, go _ (.bool true) (.bl _) (wt_by (by decide +kernel) (by decide +kernel) (by decide +kernel) (by decide +kernel)) _ _ _ _ fun H2 s2 => ⟨_, _, _, rfl, KD _ s2⟩⟩
end
end K1
set_option Elab.async false
set_option linter.all false
set_option maxRecDepth 100000
set_option maxHeartbeats 40000000
namespace K1
open PySem PySem.Spec PyProof.Rows L2 RmX Rm
/-! ### the head: what is seen of the heap behind the top -/
structure Cd where
  nm : Str
  F : Str
  B : String
  newId : String
  initId : String
  bm : List Value
  ix : Nat
def cds : List Cd := [
  ⟨"InvalidNumber", "thing", "ValueError", "ValueError.__new__", "ValueError.__init__", [.type "ValueError", .type "Exception", .type "BaseException", .type "object"], 4⟩,
  ⟨"InvalidName", "name", "ValueError", "ValueError.__new__", "ValueError.__init__", [.type "ValueError", .type "Exception", .type "BaseException", .type "object"], 5⟩,
  ⟨"InvalidPace", "pace", "ValueError", "ValueError.__new__", "ValueError.__init__", [.type "ValueError", .type "Exception", .type "BaseException", .type "object"], 6⟩,
  ⟨"InvalidAmount", "amount", "ValueError", "ValueError.__new__", "ValueError.__init__", [.type "ValueError", .type "Exception", .type "BaseException", .type "object"], 7⟩,
  ⟨"InvalidReading", "reading", "ValueError", "ValueError.__new__", "ValueError.__init__", [.type "ValueError", .type "Exception", .type "BaseException", .type "object"], 8⟩,
  ⟨"InvalidCount", "count", "ValueError", "ValueError.__new__", "ValueError.__init__", [.type "ValueError", .type "Exception", .type "BaseException", .type "object"], 9⟩,
  ⟨"InvalidDeed", "index", "ValueError", "ValueError.__new__", "ValueError.__init__", [.type "ValueError", .type "Exception", .type "BaseException", .type "object"], 10⟩,
  ⟨"InvalidText", "line", "ValueError", "ValueError.__new__", "ValueError.__init__", [.type "ValueError", .type "Exception", .type "BaseException", .type "object"], 11⟩,
  ⟨"NameTaken", "name", "RuntimeError", "RuntimeError.__new__", "RuntimeError.__init__", [.type "RuntimeError", .type "Exception", .type "BaseException", .type "object"], 12⟩,
  ⟨"Outermost", "room", "RuntimeError", "RuntimeError.__new__", "RuntimeError.__init__", [.type "RuntimeError", .type "Exception", .type "BaseException", .type "object"], 13⟩,
  ⟨"InsideItself", "room", "RuntimeError", "RuntimeError.__new__", "RuntimeError.__init__", [.type "RuntimeError", .type "Exception", .type "BaseException", .type "object"], 14⟩,
  ⟨"DoorBusy", "person", "RuntimeError", "RuntimeError.__new__", "RuntimeError.__init__", [.type "RuntimeError", .type "Exception", .type "BaseException", .type "object"], 15⟩,
  ⟨"Walking", "person", "RuntimeError", "RuntimeError.__new__", "RuntimeError.__init__", [.type "RuntimeError", .type "Exception", .type "BaseException", .type "object"], 16⟩,
  ⟨"NotNextDoor", "room", "RuntimeError", "RuntimeError.__new__", "RuntimeError.__init__", [.type "RuntimeError", .type "Exception", .type "BaseException", .type "object"], 17⟩,
  ⟨"NeverReached", "name", "RuntimeError", "RuntimeError.__new__", "RuntimeError.__init__", [.type "RuntimeError", .type "Exception", .type "BaseException", .type "object"], 18⟩,
  ⟨"StandsStill", "room", "RuntimeError", "RuntimeError.__new__", "RuntimeError.__init__", [.type "RuntimeError", .type "Exception", .type "BaseException", .type "object"], 19⟩,
  ⟨"TooMany", "limit", "RuntimeError", "RuntimeError.__new__", "RuntimeError.__init__", [.type "RuntimeError", .type "Exception", .type "BaseException", .type "object"], 20⟩,
  ⟨"TooLong", "limit", "RuntimeError", "RuntimeError.__new__", "RuntimeError.__init__", [.type "RuntimeError", .type "Exception", .type "BaseException", .type "object"], 21⟩,
  ⟨"Full", "limit", "RuntimeError", "RuntimeError.__new__", "RuntimeError.__init__", [.type "RuntimeError", .type "Exception", .type "BaseException", .type "object"], 22⟩,
  ⟨"Apart", "person", "RuntimeError", "RuntimeError.__new__", "RuntimeError.__init__", [.type "RuntimeError", .type "Exception", .type "BaseException", .type "object"], 23⟩,
  ⟨"Silent", "names", "RuntimeError", "RuntimeError.__new__", "RuntimeError.__init__", [.type "RuntimeError", .type "Exception", .type "BaseException", .type "object"], 24⟩,
  ⟨"NeverTogether", "reason", "RuntimeError", "RuntimeError.__new__", "RuntimeError.__init__", [.type "RuntimeError", .type "Exception", .type "BaseException", .type "object"], 25⟩,
  ⟨"TooLate", "person", "RuntimeError", "RuntimeError.__new__", "RuntimeError.__init__", [.type "RuntimeError", .type "Exception", .type "BaseException", .type "object"], 26⟩,
  ⟨"NoRoom", "room", "LookupError", "LookupError.__new__", "LookupError.__init__", [.type "LookupError", .type "Exception", .type "BaseException", .type "object"], 27⟩,
  ⟨"NoPerson", "person", "LookupError", "LookupError.__new__", "LookupError.__init__", [.type "LookupError", .type "Exception", .type "BaseException", .type "object"], 28⟩,
  ⟨"NoBell", "name", "LookupError", "LookupError.__new__", "LookupError.__init__", [.type "LookupError", .type "Exception", .type "BaseException", .type "object"], 29⟩,
  ⟨"NoAlarm", "name", "LookupError", "LookupError.__new__", "LookupError.__init__", [.type "LookupError", .type "Exception", .type "BaseException", .type "object"], 30⟩,
  ⟨"NoTimekeeper", "name", "LookupError", "LookupError.__new__", "LookupError.__init__", [.type "LookupError", .type "Exception", .type "BaseException", .type "object"], 31⟩,
  ⟨"NeverShown", "reading", "LookupError", "LookupError.__new__", "LookupError.__init__", [.type "LookupError", .type "Exception", .type "BaseException", .type "object"], 32⟩]
def initOf (i : Nat) : Stmt := match top i with
  | .ClassDef _ _ _ b _ _ _ _ _ _ _ => b.getD 0 (.Pass ⟨0, 0, 0, 0⟩)
  | s => s
def cC (K : PySem.W.Frag) (d : Cd) : Addr := He.ga K d.nm
def fI (K : PySem.W.Frag) (d : Cd) : Addr := He.ma K (cC K d) "__init__"
def shapeB (K : PySem.W.Frag) (C : Addr) (bmB : List Value) (newId : String) : Bool := match K.lookup C with
  | some ⟨.type "type", _, .cls cd, sl⟩ => (match cd.mro, sl.toList with
    | .ref C' :: bm, [_, _, _, _, some (.builtin n), _] => (C' == C && n == newId) && (cd.hasDict && (!cd.hasDel && PySem.W.excTail bmB bm))
    | _, _ => false)
  | _ => false
theorem shape_ok {K : PySem.W.Frag} {C : Addr} {bmB : List Value} {newId : String} (h : shapeB K C bmB newId = true) : ∃ nm q N bs bm sn sub ab col dd k0 k1 k2 k3 k5, K.lookup C = some (excClassObj nm q C N bs bm true sn sub ab col dd k0 k1 k2 k3 k5 newId) ∧ PySem.W.excTail bmB bm = true := by
  unfold shapeB at h
  split at h
  · rename_i dd cd sl ho
    split at h
    · rename_i C' bm k0 k1 k2 k3 n k5 hm hs
      simp only [Bool.and_eq_true, beq_iff_eq, Bool.not_eq_true'] at h
      obtain ⟨⟨rfl, rfl⟩, hdc, hdel, ht⟩ := h
      obtain ⟨nm, bs, mro, ns, qn, hd, sn, sub, ab, col, del⟩ := cd
      dsimp only at hm hdel hdc
      subst hm hdel hdc
      obtain ⟨l⟩ := sl
      dsimp only at hs
      subst hs
      exact ⟨nm, qn, ns, bs, bm, sn, sub, ab, col, dd, k0, k1, k2, k3, k5, ho, ht⟩
    · cases h
  · cases h
def codeB (P : Program) (K : PySem.W.Frag) (C f : Addr) : Bool := match K.lookup f with
  | some ⟨_, _, .func fd, _⟩ => (match fd.code, fd.closure with
    | .ref cda, [(_, cc)] => PySem.W.codeIn K (.ref cda) fd.qualname && ((match K.lookup cc with
      | some ⟨_, _, .cell (some (.ref C')), _⟩ => C' == C
      | _ => false) && (match K.lookup cda with
      | some ⟨_, _, .fields vs, _⟩ => (match (vs[2]? : Option Value) with
        | some (Value.str file _) => (P.main.file : Str) == file
        | _ => false)
      | _ => false))
    | _, _ => false)
  | _ => false
abbrev IniV : Type := Option (Str × Arguments × FuncBody × Scope × Addr × List Str × Value × Value × Addr)
def iniV (K : PySem.W.Frag) (d : Cd) : IniV := match K.lookup (fI K d) with
  | some ⟨_, _, .func fd, _⟩ => some (fd.name, fd.params, fd.body, fd.scope, fd.globals, fd.closure.map (·.1), fd.defaults, fd.kwdefaults, fd.builtins)
  | _ => none
def iniE (d : Cd) : IniV := some (("__init__" : Str), defArgs (initOf d.ix), FuncBody.stmts (defBody (initOf d.ix)), defScope (initOf d.ix), mainGlobals, [("__class__" : Str)], Value.none, Value.none, builtinsNs)
def clsB (P : Program) (K : PySem.W.Frag) (d : Cd) : Bool := decide (PySem.W.nsIn K mainGlobals d.nm = some (some (.ref (cC K d)))) && (shapeB K (cC K d) d.bm d.newId && (codeB P K (cC K d) (fI K d) && (decide (PySem.W.findIn K (.ref (cC K d)) "__setattr__" = some (some (.builtin "object.__setattr__"))) && (decide (PySem.W.findIn K (.ref (cC K d)) "__getattribute__" = some (some (.builtin "BaseException.__getattribute__"))) && (decide (PySem.W.findIn K (.ref (cC K d)) "__getattr__" = some none) && (decide (PySem.W.findIn K (.ref (cC K d)) d.F = some none) && (decide (PySem.W.findIn K (.ref (cC K d)) "__init__" = some (some (.ref (fI K d)))) && (decide (PySem.W.typeIn K (.ref (fI K d)) = some (.type "function")) && (decide (PySem.W.keepIn K (.ref (cC K d)) = true) && (decide (PySem.W.subIn K (.ref (cC K d)) (.type "BaseException") = some true) && (decide (PySem.W.typeIn K (.ref (cC K d)) = some (.type "type")) && (decide (PySem.W.hasDictIn K (cC K d) = true) && (decide (PySem.W.ks_superIn K (cC K d) (cC K d) "__init__" = some (some (.builtin d.initId))) && (decide (PySem.W.subIn K (.ref (cC K d)) (.type d.B) = some true) && (decide (PySem.W.mroIn K (cC K d) (.ref (cC K d)) = some true) && (decide (PySem.W.nsIn K cStatics "thirdparty.any" = some none) && (decide (PySem.W.nsIn K mainGlobals "super" = some none) && (decide (PySem.W.findIn K (.ref (cC K d)) "__class__" = some (some (.builtin "object.__class__"))) && (decide (PySem.W.specialIn K (.builtin "object.__class__") "__get__" = some (some (.builtin "getset_descriptor.__get__"))) && (decide (PySem.W.takesIn K (.builtin "object.__class__") = some true) && (decide (PySem.W.mroIn K (cC K d) (.type "object") = some true))))))))))))))))))))))
/-- all that isinstance asks of the classes, as one flag -/
def kitAll (K : PySem.W.Frag) (cs fs : List Addr) : Bool := (List.range 29).all fun k =>
  (List.range 29).all (fun j => PySem.W.kitOne K (.ref (cs.getD k 0)) (.ref (cs.getD j 0)) == some (decide (j = k))) && ((List.range 3).all (fun i => PySem.W.kitOne K (.ref (cs.getD k 0)) (.ref (fs.getD i 0)) == some (decide (i = fam k))) &&
    (PySem.W.kitOne K (.ref (cs.getD k 0)) (.type "ValueError") == some (decide (0 = fam k)) && (PySem.W.kitOne K (.ref (cs.getD k 0)) (.type "RuntimeError") == some (decide (1 = fam k)) && (PySem.W.kitOne K (.ref (cs.getD k 0)) (.type "LookupError") == some (decide (2 = fam k)) &&
      PySem.W.kitAny K (.ref (cs.getD k 0)) [.type "KeyError", .type "IndexError", .type "NotImplementedError"] == some false))))
theorem ext_mk {P : Program} {K : PySem.W.Frag} {mg : Str → Option Value} {C fI cc cda : Addr} {F : Str} {B newId initId : String} {bmB : List Value}
    {nm q : Str} {N : Addr} {bs bm : List Value} {sn : List Str} {sub : List Value} {ab : Bool} {col : Option Bool} {dd : Option Addr} {m0 m1 m2 m3 m5 : Option Value} {oci dci pmi cti xl0 xd0 : Value} {odi ani xl1 xd1 : Option Addr} {sli xl2 xd2 : Array (Option Value)} {cdf : Array Value} {file : Str} {tf : Nat} {p1 p2 q1 q2 q3 q4 q5 q6 q7 q8 q9 r1 r2 r3 r4 : Pos} {qual tx : Str}
    (xL : K.lookup C = some (excClassObj nm q C N bs bm true sn sub ab col dd m0 m1 m2 m3 m5 newId)) (hbm : PySem.W.excTail bmB bm = true)
    (sa : PySem.W.findIn K (.ref C) "__setattr__" = some (some (.builtin "object.__setattr__"))) (ga : PySem.W.findIn K (.ref C) "__getattribute__" = some (some (.builtin "BaseException.__getattribute__"))) (gg : PySem.W.findIn K (.ref C) "__getattr__" = some none) (nF : PySem.W.findIn K (.ref C) F = some none)
    (iC : PySem.W.findIn K (.ref C) "__init__" = some (some (.ref fI))) (tI : PySem.W.typeIn K (.ref fI) = some (.type "function")) (kC : PySem.W.keepIn K (.ref C) = true) (ex : PySem.W.subIn K (.ref C) (.type "BaseException") = some true) (ty : PySem.W.typeIn K (.ref C) = some (.type "type")) (hd : PySem.W.hasDictIn K C = true)
    (su : PySem.W.ks_superIn K C C "__init__" = some (some (.builtin initId))) (hB : PySem.W.subIn K (.ref C) (.type B) = some true) (me : PySem.W.mroIn K C (.ref C) = some true) (op : PySem.W.nsIn K cStatics "thirdparty.any" = some none) (ns : PySem.W.nsIn K mainGlobals "super" = some none)
    (ca : PySem.W.findIn K (.ref C) "__class__" = some (some (.builtin "object.__class__"))) (cn : PySem.W.specialIn K (.builtin "object.__class__") "__get__" = some (some (.builtin "getset_descriptor.__get__"))) (ct : PySem.W.takesIn K (.builtin "object.__class__") = some true) (cm : PySem.W.mroIn K C (.type "object") = some true)
    (il : K.lookup fI = some ⟨oci, odi, .func (PySem.W.fnX "__init__" qual (iA F p1 p2) (iB F tx q1 q2 q3 q4 q5 q6 q7 q8 q9 r1 r2 r3 r4) (iS F) [("__class__", cc)] .none .none dci pmi ani (.ref cda) cti), sli⟩) (hp : (q3.endLine == q8.line) = true) (ic : PySem.W.codeIn K (.ref cda) qual = true) (txl : tx.length ≤ 200)
    (icc : K.lookup cc = some ⟨xl0, xl1, .cell (some (.ref C)), xl2⟩) (icd : K.lookup cda = some ⟨xd0, xd1, .fields cdf, xd2⟩) (if2 : cdf[2]? = some (.str file tf)) (ife : ((P.main.file : Str) == file) = true) (top : (P.main.scope.names.lookup ("super" : Str)).isSome = false) :
    ExT P K mg C fI F B newId initId bmB :=
  { cls := ⟨nm, q, N, bs, bm, sn, sub, ab, col, dd, m0, m1, m2, m3, m5, xL, hbm⟩, sa := sa, ga := ga, gg := gg, noF := nF, iC := iC, tI := tI, kC := kC, exC := ex, tyC := ty, hdC := hd, sup := su, hB := hB, self := me, opq := op, nsup := ns, ca := ca, cn := cn, ct := ct, cm := cm,
    fn := ⟨_, _, _, _, _, _, _, _, _, _, _, _, _, _, _, _, _, _, _, _, _, _, _, _, _, _, hp, il, ic, txl, ⟨_, _, _, icc⟩, ⟨_, _, _, _, _, _, icd, if2, ife⟩⟩, top := top }
theorem ini_ok {P : Program} {K : PySem.W.Frag} {d : Cd} (c : codeB P K (cC K d) (fI K d) = true) (e : iniV K d = iniE d) :
    ∃ (oc : Value) (od : Option Addr) (doc pm : Value) (an : Option Addr) (cda cc : Addr) (ct : Value) (osl : Array (Option Value)) (qual : Str), K.lookup (fI K d) = some ⟨oc, od, .func (PySem.W.fnX "__init__" qual (defArgs (initOf d.ix)) (defBody (initOf d.ix)) (defScope (initOf d.ix)) [("__class__", cc)] .none .none doc pm an (.ref cda) ct), osl⟩ ∧ PySem.W.codeIn K (.ref cda) qual = true ∧
      (∃ cl cld csl, K.lookup cc = some ⟨cl, cld, .cell (some (.ref (cC K d))), csl⟩) ∧ ∃ ccl cdd vs ccs file tf, K.lookup cda = some ⟨ccl, cdd, .fields vs, ccs⟩ ∧ vs[2]? = some (.str file tf) ∧ ((P.main.file : Str) == file) = true := by
  unfold codeB at c
  unfold iniV at e
  split at c
  · rename_i oc od fd osl hl
    rw [hl] at e
    split at c
    · rename_i cda x cc hcode hclo
      simp only [Bool.and_eq_true] at c
      obtain ⟨c1, c2, c3⟩ := c
      obtain ⟨n1, n2, n3, n4, n5, n6, n7, n8, n9, n10, n11, n12, n13, n14, n15⟩ := fd
      have e2 : (some (n1, n3, n4, n5, n6, n7.map (·.1), n8, n9, n15) : IniV) = some (("__init__" : Str), defArgs (initOf d.ix), FuncBody.stmts (defBody (initOf d.ix)), defScope (initOf d.ix), mainGlobals, [("__class__" : Str)], Value.none, Value.none, builtinsNs) := e
      simp only [Option.some.injEq, Prod.mk.injEq] at e2
      obtain ⟨h1, h3, h4, h5, h6, h7, h8, h9, h15⟩ := e2
      dsimp only at hcode hclo c1
      subst h1 h3 h4 h5 h6 h8 h9 h15 hcode hclo
      have hx : x = ("__class__" : Str) := by simpa using h7
      subst hx
      split at c2
      · rename_i cl cld C' csl hcc
        have ec : C' = cC K d := beq_iff_eq.mp c2
        subst ec
        split at c3
        · rename_i ccl cdd vs ccs hcd
          split at c3
          · rename_i file tf hv
            exact ⟨oc, od, n10, n11, n12, cda, cc, n14, osl, n2, hl, c1, ⟨_, _, _, hcc⟩, ⟨_, _, _, _, file, tf, hcd, hv, c3⟩⟩
          · cases c3
        · cases c3
      · cases c2
    · cases c
  · cases c
theorem cls_ext {P : Program} {K : PySem.W.Frag} {mg : Str → Option Value} {d : Cd} (h : clsB P K d = true) (e : iniV K d = iniE d) (hA : ∃ p1 p2, defArgs (initOf d.ix) = iA d.F p1 p2)
    (hBd : ∃ tx q1 q2 q3 q4 q5 q6 q7 q8 q9 r1 r2 r3 r4, tx.length ≤ 200 ∧ (q3.endLine == q8.line) = true ∧ defBody (initOf d.ix) = iB d.F tx q1 q2 q3 q4 q5 q6 q7 q8 q9 r1 r2 r3 r4) (hS : defScope (initOf d.ix) = iS d.F) (top : (P.main.scope.names.lookup ("super" : Str)).isSome = false) :
    PySem.W.nsIn K mainGlobals d.nm = some (some (.ref (cC K d))) ∧ ExT P K mg (cC K d) (fI K d) d.F d.B d.newId d.initId d.bm := by
  unfold clsB at h
  simp only [Bool.and_eq_true, decide_eq_true_eq] at h
  obtain ⟨g, sh, cb, sa, ga, gg, nF, iC, tI, kC, ex, ty, hd, su, hB, me, op, ns, ca, cn, ct, cm⟩ := h
  obtain ⟨nm, q, N, bs, bm, sn, sub, ab, col, dd, m0, m1, m2, m3, m5, xL, hbm⟩ := shape_ok sh
  obtain ⟨oc, od, doc, pm, an, cda, cc, ct', osl, qual, il, ic, ⟨cl, cld, csl, icc⟩, ccl, cdd, vs, ccs, file, tf, icd, if2, ife⟩ := ini_ok cb e
  obtain ⟨p1, p2, eA⟩ := hA
  obtain ⟨tx, q1, q2, q3, q4, q5, q6, q7, q8, q9, r1, r2, r3, r4, txl, hp, eB⟩ := hBd
  rw [eA, eB, hS] at il
  exact ⟨g, ext_mk xL hbm sa ga gg nF iC tI kC ex ty hd su hB me op ns ca cn ct cm il hp ic txl icc icd if2 ife top⟩
end K1
set_option Elab.async false
set_option linter.all false
set_option maxRecDepth 100000
set_option maxHeartbeats 40000000
namespace K1
open PySem PySem.Spec PyProof.Rows L2 RmX Rm
def PK : Program := PySem.Challenge.pw_roompace_k01_error_classes
def cd (k : Nat) : Cd := cds.getD k ⟨"", "", "", "", "", [], 0⟩
def fns : List He.DefD := [
  ⟨("_law_begin", none), "_law_begin", "_law_begin", defArgs sBegin, defBody sBegin, defScope sBegin, [], []⟩,
  ⟨("_law_mixed", none), "_law_mixed", "_law_mixed", defArgs sMixed, defBody sMixed, defScope sMixed, [], []⟩,
  ⟨("_law_next", none), "_law_next", "_law_next", defArgs sNext, defBody sNext, defScope sNext, [], []⟩,
  ⟨("_law_made", none), "_law_made", "_law_made", defArgs sMade, defBody sMade, defScope sMade, [], []⟩,
  ⟨("_law_kinds", none), "_law_kinds", "_law_kinds", defArgs sKinds, defBody sKinds, defScope sKinds, [], []⟩,
  ⟨("_law_families_right", none), "_law_families_right", "_law_families_right", defArgs sFam, defBody sFam, defScope sFam, [], []⟩,
  ⟨("_law_fields", none), "_law_fields", "_law_fields", defArgs sFields, defBody sFields, defScope sFields, [], []⟩,
  ⟨("_law_named", none), "_law_named", "_law_named", defArgs sNamed, defBody sNamed, defScope sNamed, [], []⟩,
  ⟨("law", none), "law", "law", defArgs sLaw, defBody sLaw, defScope sLaw, [], []⟩]
def freeN : List Str := ["super", "isinstance", "range", "enumerate", "repr", "min", "len", "ValueError", "RuntimeError", "LookupError", "KeyError", "IndexError", "NotImplementedError"]
def glo : List Str := ["PaceError", "StateError", "MissingError", "_law_begin", "_law_mixed", "_law_next", "_law_made", "_law_kinds", "_law_families_right", "_law_fields", "_law_named", "law"]
def okX (K : PySem.W.Frag) : Bool := (cds.all fun d => clsB PK K d) && (kitAll K (cds.map (cC K)) [He.ga K "PaceError", He.ga K "StateError", He.ga K "MissingError"] && ((fns.all fun d => d.ok K) && ((freeN.all fun x => decide (PySem.W.nsIn K mainGlobals x = some none)) && ((glo.all fun x => decide (PySem.W.nsIn K mainGlobals x = some (some (.ref (He.ga K x)))))))))
abbrev AlX : Type := Bool × List He.FnW × List IniV
def obsK (K : PySem.W.Frag) : AlX := (okX K, fns.map fun d => He.fnW K d.at_, cds.map fun d => iniV K d)
def valK : AlX := (true, fns.map He.DefD.val, cds.map iniE)
def SaysX (K : PySem.W.Frag) : Prop := obsK K = valK
def asX (g : Addr → Option Obj) : Nat → List Addr
  | 0 => [mainGlobals, cStatics]
  | n + 1 => He.growD g (asX g n)
def obsXG (g : Addr → Option Obj) : AlX := obsK (He.frG g (asX g 4))
def hookX : PySem.W.Hook where
  α := AlX
  obs := fun s => obsXG s.heap.get?
  val := fun _ => valK
  says := fun _ h => ∃ K : PySem.W.Frag, K.In h ∧ SaysX K
  of := fun _ _ e => ⟨_, He.frG_in, e⟩
  keeps := fun _ _ _ ⟨K, hK, c⟩ k => ⟨K, PySem.W.Frag.In.keeps hK k, c⟩
def obX (s : PySem.W.SharedT) : AlX := obsXG (HandSHeadRun.getT s)
theorem obX_eq (s : PySem.W.SharedT) : obX s = hookX.obs s.abs := by
  have e : HandSHeadRun.getT s = s.abs.heap.get? := funext (HandSHeadRun.getT_eq s)
  show obsXG (HandSHeadRun.getT s) = obsXG s.abs.heap.get?
  rw [e]
structure SaysP (K : PySem.W.Frag) : Prop where
  cls_ : ∀ d ∈ cds, clsB PK K d = true
  kit_ : kitAll K (cds.map (cC K)) [He.ga K "PaceError", He.ga K "StateError", He.ga K "MissingError"] = true
  fns_ : ∀ d ∈ fns, d.ok K = true
  free_ : ∀ x ∈ freeN, PySem.W.nsIn K mainGlobals x = some none
  glo' : ∀ x ∈ glo, PySem.W.nsIn K mainGlobals x = some (some (.ref (He.ga K x)))
  fw : fns.map (fun d => He.fnW K d.at_) = fns.map He.DefD.val
  iw : cds.map (fun d => iniV K d) = cds.map iniE
theorem says_p {K : PySem.W.Frag} (c : SaysX K) : SaysP K := by
  have h1 : okX K = true := congrArg (fun z : AlX => z.1) c
  have h2 : fns.map (fun d => He.fnW K d.at_) = fns.map He.DefD.val := congrArg (fun z : AlX => z.2.1) c
  have h3 : cds.map (fun d => iniV K d) = cds.map iniE := congrArg (fun z : AlX => z.2.2) c
  unfold okX at h1
  simp only [Bool.and_eq_true, List.all_eq_true, decide_eq_true_eq] at h1
  obtain ⟨a, b, e, f, g⟩ := h1
  exact ⟨a, b, e, f, g, h2, h3⟩
theorem SaysP.fun_ {K : PySem.W.Frag} (c : SaysP K) (i : Nat) {d : He.DefD} (h : fns[i]? = some d) : ∃ fd, FunD K d.name d.qual d.params d.body d.scope (d.dvs K) (d.kws K) (He.fAd K d.at_) fd := by
  have e2 : (fns.map fun d => He.fnW K d.at_)[i]? = (fns.map He.DefD.val)[i]? := by rw [c.fw]
  rw [List.getElem?_map, List.getElem?_map, h] at e2
  exact He.DefD.funD (Option.some.inj e2) (c.fns_ d (List.mem_of_getElem? h))
theorem SaysP.glo_ {K : PySem.W.Frag} (c : SaysP K) (x : Str) (h : x ∈ glo) : PySem.W.nsIn K mainGlobals x = some (some (.ref (He.ga K x))) := c.glo' x h
theorem SaysP.ini {K : PySem.W.Frag} (c : SaysP K) (i : Nat) {d : Cd} (h : cds[i]? = some d) : clsB PK K d = true ∧ iniV K d = iniE d := by
  have e2 : (cds.map fun d => iniV K d)[i]? = (cds.map iniE)[i]? := by rw [c.iw]
  rw [List.getElem?_map, List.getElem?_map, h] at e2
  exact ⟨c.cls_ d (List.mem_of_getElem? h), Option.some.inj e2⟩
theorem fun_of {K : PySem.W.Frag} {x : Str} {st : Stmt} {f : Addr} {fd : FuncData} (F : FunD K x x (defArgs st) (defBody st) (defScope st) [] [] f fd) : Fun K x x st f fd := by
  obtain ⟨oc, od, dV, kV, doc, pm, an, cdv, ct, osl, rfl, lk, hcd, hD, hK⟩ := F.ex
  rcases hD with ⟨_, rfl⟩ | ⟨e, _⟩
  · exact ⟨⟨oc, od, kV, doc, pm, an, cdv, ct, osl, rfl, lk, hcd⟩, F.kp⟩
  · exact absurd rfl e
theorem main_super : (PK.main.scope.names.lookup ("super" : Str)).isSome = false := by first | rfl | decide +kernel
set_option maxHeartbeats 40000000 in
theorem facts {w : World} {K : PySem.W.Frag} {h : Heap} {mg : Str → Option Value} {fa : Addr} (X : K.In h) (G : h.Ns mainGlobals mg) (hfa : mg "law" = some (.ref fa)) (S : SaysP K) :
    ∃ fd : FuncData, (∀ (s : Shared) (u : Value), BindsTo s fd ⟨[u], []⟩ [("script", u)]) ∧ ∀ base : Heap, K.In base → base.Ns mainGlobals mg → FnG PK w K mg base 4 fa fd ["script"] (spLaw K) := by
  obtain ⟨fd0, F0⟩ := S.fun_ 0 (d := ⟨("_law_begin", none), "_law_begin", "_law_begin", defArgs sBegin, defBody sBegin, defScope sBegin, [], []⟩) rfl
  replace F0 : Fun K "_law_begin" "_law_begin" sBegin (He.ga K "_law_begin") fd0 := fun_of F0
  have a0 : mg "_law_begin" = some (.ref (He.ga K "_law_begin")) := PySem.W.mg_of X G (S.glo_ "_law_begin" (by decide +kernel))
  have b0 := F0.binds (ps := ["script"]) fun _ _ _ _ _ _ us hl => match us, hl with | [_], _ => rfl
  obtain ⟨fd1, F1⟩ := S.fun_ 1 (d := ⟨("_law_mixed", none), "_law_mixed", "_law_mixed", defArgs sMixed, defBody sMixed, defScope sMixed, [], []⟩) rfl
  replace F1 : Fun K "_law_mixed" "_law_mixed" sMixed (He.ga K "_law_mixed") fd1 := fun_of F1
  have a1 : mg "_law_mixed" = some (.ref (He.ga K "_law_mixed")) := PySem.W.mg_of X G (S.glo_ "_law_mixed" (by decide +kernel))
  have b1 := F1.binds (ps := ["cell", "k"]) fun _ _ _ _ _ _ us hl => match us, hl with | [_, _], _ => rfl
  obtain ⟨fd2, F2⟩ := S.fun_ 2 (d := ⟨("_law_next", none), "_law_next", "_law_next", defArgs sNext, defBody sNext, defScope sNext, [], []⟩) rfl
  replace F2 : Fun K "_law_next" "_law_next" sNext (He.ga K "_law_next") fd2 := fun_of F2
  have a2 : mg "_law_next" = some (.ref (He.ga K "_law_next")) := PySem.W.mg_of X G (S.glo_ "_law_next" (by decide +kernel))
  have b2 := F2.binds (ps := ["draw", "bound"]) fun _ _ _ _ _ _ us hl => match us, hl with | [_, _], _ => rfl
  obtain ⟨fd3, F3⟩ := S.fun_ 3 (d := ⟨("_law_made", none), "_law_made", "_law_made", defArgs sMade, defBody sMade, defScope sMade, [], []⟩) rfl
  replace F3 : Fun K "_law_made" "_law_made" sMade (He.ga K "_law_made") fd3 := fun_of F3
  have a3 : mg "_law_made" = some (.ref (He.ga K "_law_made")) := PySem.W.mg_of X G (S.glo_ "_law_made" (by decide +kernel))
  have b3 := F3.binds (ps := ["what"]) fun _ _ _ _ _ _ us hl => match us, hl with | [_], _ => rfl
  obtain ⟨fd4, F4⟩ := S.fun_ 4 (d := ⟨("_law_kinds", none), "_law_kinds", "_law_kinds", defArgs sKinds, defBody sKinds, defScope sKinds, [], []⟩) rfl
  replace F4 : Fun K "_law_kinds" "_law_kinds" sKinds (He.ga K "_law_kinds") fd4 := fun_of F4
  have a4 : mg "_law_kinds" = some (.ref (He.ga K "_law_kinds")) := PySem.W.mg_of X G (S.glo_ "_law_kinds" (by decide +kernel))
  have b4 := F4.binds (ps := ["e"]) fun _ _ _ _ _ _ us hl => match us, hl with | [_], _ => rfl
  obtain ⟨fd5, F5⟩ := S.fun_ 5 (d := ⟨("_law_families_right", none), "_law_families_right", "_law_families_right", defArgs sFam, defBody sFam, defScope sFam, [], []⟩) rfl
  replace F5 : Fun K "_law_families_right" "_law_families_right" sFam (He.ga K "_law_families_right") fd5 := fun_of F5
  have a5 : mg "_law_families_right" = some (.ref (He.ga K "_law_families_right")) := PySem.W.mg_of X G (S.glo_ "_law_families_right" (by decide +kernel))
  have b5 := F5.binds (ps := ["made"]) fun _ _ _ _ _ _ us hl => match us, hl with | [_], _ => rfl
  obtain ⟨fd6, F6⟩ := S.fun_ 6 (d := ⟨("_law_fields", none), "_law_fields", "_law_fields", defArgs sFields, defBody sFields, defScope sFields, [], []⟩) rfl
  replace F6 : Fun K "_law_fields" "_law_fields" sFields (He.ga K "_law_fields") fd6 := fun_of F6
  have a6 : mg "_law_fields" = some (.ref (He.ga K "_law_fields")) := PySem.W.mg_of X G (S.glo_ "_law_fields" (by decide +kernel))
  have b6 := F6.binds (ps := ["made"]) fun _ _ _ _ _ _ us hl => match us, hl with | [_], _ => rfl
  obtain ⟨fd7, F7⟩ := S.fun_ 7 (d := ⟨("_law_named", none), "_law_named", "_law_named", defArgs sNamed, defBody sNamed, defScope sNamed, [], []⟩) rfl
  replace F7 : Fun K "_law_named" "_law_named" sNamed (He.ga K "_law_named") fd7 := fun_of F7
  have a7 : mg "_law_named" = some (.ref (He.ga K "_law_named")) := PySem.W.mg_of X G (S.glo_ "_law_named" (by decide +kernel))
  have b7 := F7.binds (ps := ["what"]) fun _ _ _ _ _ _ us hl => match us, hl with | [_], _ => rfl
  obtain ⟨fd8, F8⟩ := S.fun_ 8 (d := ⟨("law", none), "law", "law", defArgs sLaw, defBody sLaw, defScope sLaw, [], []⟩) rfl
  replace F8 : Fun K "law" "law" sLaw (He.ga K "law") fd8 := fun_of F8
  have a8 : mg "law" = some (.ref (He.ga K "law")) := PySem.W.mg_of X G (S.glo_ "law" (by decide +kernel))
  have e := hfa.symm.trans a8
  cases e
  let c : Adr := ⟨fun k => (cds.map (cC K)).getD k 0, fun k => (cds.map (fI K)).getD k 0, fun i => [He.ga K "PaceError", He.ga K "StateError", He.ga K "MissingError"].getD i 0⟩
  obtain ⟨i0, j0⟩ := S.ini 0 (d := cd 0) rfl
  obtain ⟨g0, t0⟩ := cls_ext (P := PK) (mg := mg) i0 j0 ⟨_, _, rfl⟩ ⟨_, _, _, _, _, _, _, _, _, _, _, _, _, _, by decide +kernel, rfl, rfl⟩ rfl main_super
  obtain ⟨i1, j1⟩ := S.ini 1 (d := cd 1) rfl
  obtain ⟨g1, t1⟩ := cls_ext (P := PK) (mg := mg) i1 j1 ⟨_, _, rfl⟩ ⟨_, _, _, _, _, _, _, _, _, _, _, _, _, _, by decide +kernel, rfl, rfl⟩ rfl main_super
  obtain ⟨i2, j2⟩ := S.ini 2 (d := cd 2) rfl
  obtain ⟨g2, t2⟩ := cls_ext (P := PK) (mg := mg) i2 j2 ⟨_, _, rfl⟩ ⟨_, _, _, _, _, _, _, _, _, _, _, _, _, _, by decide +kernel, rfl, rfl⟩ rfl main_super
  obtain ⟨i3, j3⟩ := S.ini 3 (d := cd 3) rfl
  obtain ⟨g3, t3⟩ := cls_ext (P := PK) (mg := mg) i3 j3 ⟨_, _, rfl⟩ ⟨_, _, _, _, _, _, _, _, _, _, _, _, _, _, by decide +kernel, rfl, rfl⟩ rfl main_super
  obtain ⟨i4, j4⟩ := S.ini 4 (d := cd 4) rfl
  obtain ⟨g4, t4⟩ := cls_ext (P := PK) (mg := mg) i4 j4 ⟨_, _, rfl⟩ ⟨_, _, _, _, _, _, _, _, _, _, _, _, _, _, by decide +kernel, rfl, rfl⟩ rfl main_super
  obtain ⟨i5, j5⟩ := S.ini 5 (d := cd 5) rfl
  obtain ⟨g5, t5⟩ := cls_ext (P := PK) (mg := mg) i5 j5 ⟨_, _, rfl⟩ ⟨_, _, _, _, _, _, _, _, _, _, _, _, _, _, by decide +kernel, rfl, rfl⟩ rfl main_super
  obtain ⟨i6, j6⟩ := S.ini 6 (d := cd 6) rfl
  obtain ⟨g6, t6⟩ := cls_ext (P := PK) (mg := mg) i6 j6 ⟨_, _, rfl⟩ ⟨_, _, _, _, _, _, _, _, _, _, _, _, _, _, by decide +kernel, rfl, rfl⟩ rfl main_super
  obtain ⟨i7, j7⟩ := S.ini 7 (d := cd 7) rfl
  obtain ⟨g7, t7⟩ := cls_ext (P := PK) (mg := mg) i7 j7 ⟨_, _, rfl⟩ ⟨_, _, _, _, _, _, _, _, _, _, _, _, _, _, by decide +kernel, rfl, rfl⟩ rfl main_super
  obtain ⟨i8, j8⟩ := S.ini 8 (d := cd 8) rfl
  obtain ⟨g8, t8⟩ := cls_ext (P := PK) (mg := mg) i8 j8 ⟨_, _, rfl⟩ ⟨_, _, _, _, _, _, _, _, _, _, _, _, _, _, by decide +kernel, rfl, rfl⟩ rfl main_super
  obtain ⟨i9, j9⟩ := S.ini 9 (d := cd 9) rfl
  obtain ⟨g9, t9⟩ := cls_ext (P := PK) (mg := mg) i9 j9 ⟨_, _, rfl⟩ ⟨_, _, _, _, _, _, _, _, _, _, _, _, _, _, by decide +kernel, rfl, rfl⟩ rfl main_super
  obtain ⟨i10, j10⟩ := S.ini 10 (d := cd 10) rfl
  obtain ⟨g10, t10⟩ := cls_ext (P := PK) (mg := mg) i10 j10 ⟨_, _, rfl⟩ ⟨_, _, _, _, _, _, _, _, _, _, _, _, _, _, by decide +kernel, rfl, rfl⟩ rfl main_super
  obtain ⟨i11, j11⟩ := S.ini 11 (d := cd 11) rfl
  obtain ⟨g11, t11⟩ := cls_ext (P := PK) (mg := mg) i11 j11 ⟨_, _, rfl⟩ ⟨_, _, _, _, _, _, _, _, _, _, _, _, _, _, by decide +kernel, rfl, rfl⟩ rfl main_super
  obtain ⟨i12, j12⟩ := S.ini 12 (d := cd 12) rfl
  obtain ⟨g12, t12⟩ := cls_ext (P := PK) (mg := mg) i12 j12 ⟨_, _, rfl⟩ ⟨_, _, _, _, _, _, _, _, _, _, _, _, _, _, by decide +kernel, rfl, rfl⟩ rfl main_super
  obtain ⟨i13, j13⟩ := S.ini 13 (d := cd 13) rfl
  obtain ⟨g13, t13⟩ := cls_ext (P := PK) (mg := mg) i13 j13 ⟨_, _, rfl⟩ ⟨_, _, _, _, _, _, _, _, _, _, _, _, _, _, by decide +kernel, rfl, rfl⟩ rfl main_super
  obtain ⟨i14, j14⟩ := S.ini 14 (d := cd 14) rfl
  obtain ⟨g14, t14⟩ := cls_ext (P := PK) (mg := mg) i14 j14 ⟨_, _, rfl⟩ ⟨_, _, _, _, _, _, _, _, _, _, _, _, _, _, by decide +kernel, rfl, rfl⟩ rfl main_super
  obtain ⟨i15, j15⟩ := S.ini 15 (d := cd 15) rfl
  obtain ⟨g15, t15⟩ := cls_ext (P := PK) (mg := mg) i15 j15 ⟨_, _, rfl⟩ ⟨_, _, _, _, _, _, _, _, _, _, _, _, _, _, by decide +kernel, rfl, rfl⟩ rfl main_super
  obtain ⟨i16, j16⟩ := S.ini 16 (d := cd 16) rfl
  obtain ⟨g16, t16⟩ := cls_ext (P := PK) (mg := mg) i16 j16 ⟨_, _, rfl⟩ ⟨_, _, _, _, _, _, _, _, _, _, _, _, _, _, by decide +kernel, rfl, rfl⟩ rfl main_super
  obtain ⟨i17, j17⟩ := S.ini 17 (d := cd 17) rfl
  obtain ⟨g17, t17⟩ := cls_ext (P := PK) (mg := mg) i17 j17 ⟨_, _, rfl⟩ ⟨_, _, _, _, _, _, _, _, _, _, _, _, _, _, by decide +kernel, rfl, rfl⟩ rfl main_super
  obtain ⟨i18, j18⟩ := S.ini 18 (d := cd 18) rfl
  obtain ⟨g18, t18⟩ := cls_ext (P := PK) (mg := mg) i18 j18 ⟨_, _, rfl⟩ ⟨_, _, _, _, _, _, _, _, _, _, _, _, _, _, by decide +kernel, rfl, rfl⟩ rfl main_super
  obtain ⟨i19, j19⟩ := S.ini 19 (d := cd 19) rfl
  obtain ⟨g19, t19⟩ := cls_ext (P := PK) (mg := mg) i19 j19 ⟨_, _, rfl⟩ ⟨_, _, _, _, _, _, _, _, _, _, _, _, _, _, by decide +kernel, rfl, rfl⟩ rfl main_super
  obtain ⟨i20, j20⟩ := S.ini 20 (d := cd 20) rfl
  obtain ⟨g20, t20⟩ := cls_ext (P := PK) (mg := mg) i20 j20 ⟨_, _, rfl⟩ ⟨_, _, _, _, _, _, _, _, _, _, _, _, _, _, by decide +kernel, rfl, rfl⟩ rfl main_super
  obtain ⟨i21, j21⟩ := S.ini 21 (d := cd 21) rfl
  obtain ⟨g21, t21⟩ := cls_ext (P := PK) (mg := mg) i21 j21 ⟨_, _, rfl⟩ ⟨_, _, _, _, _, _, _, _, _, _, _, _, _, _, by decide +kernel, rfl, rfl⟩ rfl main_super
  obtain ⟨i22, j22⟩ := S.ini 22 (d := cd 22) rfl
  obtain ⟨g22, t22⟩ := cls_ext (P := PK) (mg := mg) i22 j22 ⟨_, _, rfl⟩ ⟨_, _, _, _, _, _, _, _, _, _, _, _, _, _, by decide +kernel, rfl, rfl⟩ rfl main_super
  obtain ⟨i23, j23⟩ := S.ini 23 (d := cd 23) rfl
  obtain ⟨g23, t23⟩ := cls_ext (P := PK) (mg := mg) i23 j23 ⟨_, _, rfl⟩ ⟨_, _, _, _, _, _, _, _, _, _, _, _, _, _, by decide +kernel, rfl, rfl⟩ rfl main_super
  obtain ⟨i24, j24⟩ := S.ini 24 (d := cd 24) rfl
  obtain ⟨g24, t24⟩ := cls_ext (P := PK) (mg := mg) i24 j24 ⟨_, _, rfl⟩ ⟨_, _, _, _, _, _, _, _, _, _, _, _, _, _, by decide +kernel, rfl, rfl⟩ rfl main_super
  obtain ⟨i25, j25⟩ := S.ini 25 (d := cd 25) rfl
  obtain ⟨g25, t25⟩ := cls_ext (P := PK) (mg := mg) i25 j25 ⟨_, _, rfl⟩ ⟨_, _, _, _, _, _, _, _, _, _, _, _, _, _, by decide +kernel, rfl, rfl⟩ rfl main_super
  obtain ⟨i26, j26⟩ := S.ini 26 (d := cd 26) rfl
  obtain ⟨g26, t26⟩ := cls_ext (P := PK) (mg := mg) i26 j26 ⟨_, _, rfl⟩ ⟨_, _, _, _, _, _, _, _, _, _, _, _, _, _, by decide +kernel, rfl, rfl⟩ rfl main_super
  obtain ⟨i27, j27⟩ := S.ini 27 (d := cd 27) rfl
  obtain ⟨g27, t27⟩ := cls_ext (P := PK) (mg := mg) i27 j27 ⟨_, _, rfl⟩ ⟨_, _, _, _, _, _, _, _, _, _, _, _, _, _, by decide +kernel, rfl, rfl⟩ rfl main_super
  obtain ⟨i28, j28⟩ := S.ini 28 (d := cd 28) rfl
  obtain ⟨g28, t28⟩ := cls_ext (P := PK) (mg := mg) i28 j28 ⟨_, _, rfl⟩ ⟨_, _, _, _, _, _, _, _, _, _, _, _, _, _, by decide +kernel, rfl, rfl⟩ rfl main_super
  have nn : ∀ x, x ∈ freeN → mg x = none := fun x hx => PySem.W.mg_none_of X G (S.free_ x hx)
  have T : TxtC PK K mg c := { t0 := t0, g0 := PySem.W.mg_of X G g0, t1 := t1, g1 := PySem.W.mg_of X G g1, t2 := t2, g2 := PySem.W.mg_of X G g2, t3 := t3, g3 := PySem.W.mg_of X G g3, t4 := t4, g4 := PySem.W.mg_of X G g4, t5 := t5, g5 := PySem.W.mg_of X G g5, t6 := t6, g6 := PySem.W.mg_of X G g6, t7 := t7, g7 := PySem.W.mg_of X G g7, t8 := t8, g8 := PySem.W.mg_of X G g8, t9 := t9, g9 := PySem.W.mg_of X G g9, t10 := t10, g10 := PySem.W.mg_of X G g10, t11 := t11, g11 := PySem.W.mg_of X G g11, t12 := t12, g12 := PySem.W.mg_of X G g12, t13 := t13, g13 := PySem.W.mg_of X G g13, t14 := t14, g14 := PySem.W.mg_of X G g14, t15 := t15, g15 := PySem.W.mg_of X G g15, t16 := t16, g16 := PySem.W.mg_of X G g16, t17 := t17, g17 := PySem.W.mg_of X G g17, t18 := t18, g18 := PySem.W.mg_of X G g18, t19 := t19, g19 := PySem.W.mg_of X G g19, t20 := t20, g20 := PySem.W.mg_of X G g20, t21 := t21, g21 := PySem.W.mg_of X G g21, t22 := t22, g22 := PySem.W.mg_of X G g22, t23 := t23, g23 := PySem.W.mg_of X G g23, t24 := t24, g24 := PySem.W.mg_of X G g24, t25 := t25, g25 := PySem.W.mg_of X G g25, t26 := t26, g26 := PySem.W.mg_of X G g26, t27 := t27, g27 := PySem.W.mg_of X G g27, t28 := t28, g28 := PySem.W.mg_of X G g28, gP := PySem.W.mg_of X G (S.glo_ "PaceError" (by decide +kernel)), gS := PySem.W.mg_of X G (S.glo_ "StateError" (by decide +kernel)), gM := PySem.W.mg_of X G (S.glo_ "MissingError" (by decide +kernel)), sup := nn "super" (by decide +kernel), isi := nn "isinstance" (by decide +kernel) }
  have ext : ∀ k, k < 29 → ∃ (fI : Addr) (F : Str) (B n1 n2 : String) (bm : List Value), ExT PK K mg (c.CA k) fI F B n1 n2 bm := by
    intro k hk
    match k, hk with
    | 0, _ => exact ⟨_, _, _, _, _, _, t0⟩
    | 1, _ => exact ⟨_, _, _, _, _, _, t1⟩
    | 2, _ => exact ⟨_, _, _, _, _, _, t2⟩
    | 3, _ => exact ⟨_, _, _, _, _, _, t3⟩
    | 4, _ => exact ⟨_, _, _, _, _, _, t4⟩
    | 5, _ => exact ⟨_, _, _, _, _, _, t5⟩
    | 6, _ => exact ⟨_, _, _, _, _, _, t6⟩
    | 7, _ => exact ⟨_, _, _, _, _, _, t7⟩
    | 8, _ => exact ⟨_, _, _, _, _, _, t8⟩
    | 9, _ => exact ⟨_, _, _, _, _, _, t9⟩
    | 10, _ => exact ⟨_, _, _, _, _, _, t10⟩
    | 11, _ => exact ⟨_, _, _, _, _, _, t11⟩
    | 12, _ => exact ⟨_, _, _, _, _, _, t12⟩
    | 13, _ => exact ⟨_, _, _, _, _, _, t13⟩
    | 14, _ => exact ⟨_, _, _, _, _, _, t14⟩
    | 15, _ => exact ⟨_, _, _, _, _, _, t15⟩
    | 16, _ => exact ⟨_, _, _, _, _, _, t16⟩
    | 17, _ => exact ⟨_, _, _, _, _, _, t17⟩
    | 18, _ => exact ⟨_, _, _, _, _, _, t18⟩
    | 19, _ => exact ⟨_, _, _, _, _, _, t19⟩
    | 20, _ => exact ⟨_, _, _, _, _, _, t20⟩
    | 21, _ => exact ⟨_, _, _, _, _, _, t21⟩
    | 22, _ => exact ⟨_, _, _, _, _, _, t22⟩
    | 23, _ => exact ⟨_, _, _, _, _, _, t23⟩
    | 24, _ => exact ⟨_, _, _, _, _, _, t24⟩
    | 25, _ => exact ⟨_, _, _, _, _, _, t25⟩
    | 26, _ => exact ⟨_, _, _, _, _, _, t26⟩
    | 27, _ => exact ⟨_, _, _, _, _, _, t27⟩
    | 28, _ => exact ⟨_, _, _, _, _, _, t28⟩
    | k + 29, hk => omega
  have KA : ∀ k, k < 29 → _ := fun k hk => List.all_eq_true.mp S.kit_ k (List.mem_range.mpr hk)
  simp only [Bool.and_eq_true, List.all_eq_true, List.mem_range, beq_iff_eq] at KA
  have M : Kit PK K mg c := ⟨ext, fun k hk j hj => (KA k hk).1 j hj, fun k hk i hi => (KA k hk).2.1 i hi, fun k hk => (KA k hk).2.2.1, fun k hk => (KA k hk).2.2.2.1, fun k hk => (KA k hk).2.2.2.2.1, fun k hk => (KA k hk).2.2.2.2.2⟩
  have B : TxtB mg := ⟨nn "range" (by decide +kernel), nn "enumerate" (by decide +kernel), nn "repr" (by decide +kernel), nn "min" (by decide +kernel), nn "len" (by decide +kernel), nn "ValueError" (by decide +kernel), nn "RuntimeError" (by decide +kernel), nn "LookupError" (by decide +kernel), nn "KeyError" (by decide +kernel), nn "IndexError" (by decide +kernel), nn "NotImplementedError" (by decide +kernel)⟩
  have TD : TxtD K mg (He.ga K "_law_mixed") := ⟨nn "len" (by decide +kernel), a1, F1.kp⟩
  refine ⟨fd8, fun s u => ?_, fun base _ _ => ?_⟩
  · obtain ⟨oc, od, kV, doc, pm, an, cdv, ct, osl, e2, lk, hcd⟩ := F8.ex
    rw [e2]
    exact .of_eq rfl
  have GX : FnG PK w K mg base 2 (He.ga K "_law_next") _ ["draw", "bound"] spNext := ok_next F2 TD F1 b1
  have cMa : Cal PK w K mg base "_law_made" _ _ 3 ["what"] (bx (spMade K c)) := ⟨fn_bx (ok_made F3 T), a3, F3.kp, b3⟩
  have cKi : Cal PK w K mg base "_law_kinds" _ _ 1 ["e"] (bx (spKinds c)) := ⟨fn_bx (ok_kinds F4 T M), a4, F4.kp, b4⟩
  have cFm : Cal PK w K mg base "_law_families_right" _ _ 2 ["made"] (bx (spFam c)) := ⟨fn_bx (ok_fam F5 T M B cKi), a5, F5.kp, b5⟩
  have cFi : Cal PK w K mg base "_law_fields" _ _ 1 ["made"] (bx (spFields c)) := ⟨fn_bx (ok_fields F6 T), a6, F6.kp, b6⟩
  have cNa : Cal PK w K mg base "_law_named" _ _ 3 ["what"] (bx (spNamed K c)) := ⟨fn_bx (ok_named F7 T), a7, F7.kp, b7⟩
  have cB : Cal PK w K mg base "_law_begin" _ _ 1 ["script"] (bx (spBegin K)) := ⟨fn_bx (ok_begin F0), a0, F0.kp, b0⟩
  exact ok_law F8 B a2 F2.kp GX b2 cMa cFm cFi cNa cB
/-- as walk_ofG, the written part told by the heap -/
theorem walk_ofY {l : PySem.W.OpenLaw} {n k : Nat} {q : Program} {loose : List Str} {XP : (Str → Option Value) → Heap → Prop} {YP : World → Heap → Prop} {d : DefRec} {x : Str}
    (most : l.most = some n) (fits : n ≤ sizeLine) (nodef : d.params.defaults = []) (rm : Room k callerA)
    (F : ∀ (w : World) (mg : Str → Option Value) (fa : Addr) (h : Heap), YP w h → h.Ns mainGlobals mg → mg d.name = some (.ref fa) →
      ∃ (K : PySem.W.Frag) (fd : FuncData) (sp : Sp), K.In h ∧ (∀ (s : Shared) (u : Value), BindsTo s fd ⟨[u], []⟩ [(x, u)]) ∧ (∀ (T : Hp) (a : Addr) (ns : List Int), ns.length ≤ n → SqL K T a (ns.map V.int) → sp [.ref a] T (fun v _ => v = .bl true) fun _ _ _ => False) ∧
        ∀ base : Heap, K.In base → base.Ns mainGlobals mg → FnG l.prog w K mg base k fa fd [x] sp) :
    PySem.W.WalkO q loose XP YP l.row.toRowW d [] (fun f vs => PySem.call f vs) := by
  refine Att.attach_call most nodef ?_
  intro w s₀ t mg mb fa o pm cd doc a cells ns G Y ho hd hcd hmg hobj hints hlen hg
  obtain ⟨K, fd, sp, kin, bnd, kept, promise⟩ := F w mg fa _ Y G.T.g hmg
  exact lawG_call kin G.T.g G.T.b G.T.builtins G.T.nolimit hg hobj hints (Nat.le_trans hlen fits) rm promise bnd fun T _ hS => kept T a ns hlen hS
end K1
set_option Elab.async false
set_option linter.all false
set_option maxRecDepth 100000
set_option maxHeartbeats 40000000
namespace K1
open PySem PySem.Spec PyProof.Rows L2 RmX Rm
abbrev RW1 : PySem.W.OpenRow := PySem.W.OpenLaw.row PySem.Challenge.rw_roompace_k01_error_classes
def lo1 : List Str := ["PaceError", "StateError", "MissingError", "InvalidNumber", "InvalidName", "InvalidPace", "InvalidAmount", "InvalidReading", "InvalidCount", "InvalidDeed", "InvalidText", "NameTaken", "Outermost", "InsideItself", "DoorBusy", "Walking", "NotNextDoor", "NeverReached", "StandsStill", "TooMany", "TooLong", "Full", "Apart"]
def lo2 : List Str := ["Silent", "NeverTogether", "TooLate", "NoRoom", "NoPerson", "NoBell", "NoAlarm", "NoTimekeeper", "NeverShown", "_law_begin", "_law_mixed", "_law_next", "_law_made", "_law_kinds", "_law_families_right", "_law_fields", "_law_named"]
set_option maxHeartbeats 0 in
theorem runX (w : World) : HandSHeadRun.RunEq RW1 (PySem.W.view RW1.prog [42]) hookX obX 12000 (lo1 ++ lo2) w := by
  intro os
  kernel_rfl
end K1
open PySem PySem.W PySem.Calls PyProof.Rows
set_option maxHeartbeats 0 in
theorem PySem.Challenge.cw_roompace_k01_error_classes_holds : PySem.Challenge.rw_roompace_k01_error_classes.Holds := by
  w_on; o_law
  refine HandSHeadRun.head_any (r := OpenLaw.row PySem.Challenge.rw_roompace_k01_error_classes) (q := view (OpenLaw.row PySem.Challenge.rw_roompace_k01_error_classes).prog [42]) (H := K1.hookX) (ob := K1.obX) (M := 12000) (loose := K1.lo1 ++ K1.lo2) (d := HandSHeadRun.topDef (OpenLaw.row PySem.Challenge.rw_roompace_k01_error_classes).prog 42) (kwd := []) K1.obX_eq
    (by kernel_rfl) (fun s => by kernel_rfl) K1.runX (by kernel_rfl) (by kernel_rfl) (by kernel_rfl) (by rfl) (by first | assumption | decide +kernel) (by decide +kernel) ⟨rfl, rfl, rfl, rfl, rfl, by decide +kernel⟩ ?hw ?hc
  case hw => w_witness2
  case hc =>
    refine K1.walk_ofY (l := PySem.Challenge.rw_roompace_k01_error_classes) (n := 63) (k := 4) (x := "script") rfl (by decide) (by kernel_rfl) ⟨rfl, by decide, by decide⟩ ?F
    intro w mg fa h Y G hmg0
    obtain ⟨K, KX, c⟩ := Y
    have hmg : mg ("law" : PySem.Str) = some (.ref fa) := by
      have e : (HandSHeadRun.topDef (OpenLaw.row PySem.Challenge.rw_roompace_k01_error_classes).prog 42).name = ("law" : PySem.Str) := by kernel_rfl
      rw [← e]
      exact hmg0
    obtain ⟨fd, hb, hF⟩ := K1.facts (w := w) KX G hmg (K1.says_p c)
    exact ⟨K, fd, K1.spLaw K, KX, hb, fun T a ns hl hS => ⟨a, ns, rfl, hS, hl, fun _ => rfl⟩, hF⟩
