import PyProof.Rows.All
import Wide.All
import OpenK.AllK
import Wide.FinOn
import PyProof.EqAt
import PyProof.EqKinds
import PyProof.TupleCall
import HandS.ForMost
import HandS.ForExc
import HandS.Wide
import HandS.Gcd
import HandS.IsInst
import HandS.ExcInit
import HandS.Defaults
import HandS.FStr
import HandS.CallSlots
import KE.KExcSuper
import KE.KExcIs
import KE.KTryMore
import HandS.FStrTup
import HandS.Ends
import HandS.SetFor
import KE.KMathG
import HandS.More
import HandS.Style
import KE.RegKSuper
import KE.KExcLine
import PySem.Challenge.RW_roompace_k04_measures_and_multiples
set_option Elab.async false
set_option linter.all false
set_option maxRecDepth 100000
set_option maxHeartbeats 4000000
/-! # Rules of our own over the hand layer: calls that know that nothing is being shown (needed for repr of nested data), repr and {x!r} of data, list + list that are read -/
namespace Rm
open PySem PySem.Spec PyProof.Rows L2

/-- a def's promise where no repr is under way -/
structure FnG (P : Program) (w : World) (K : PySem.W.Frag) (mg : Str → Option Value) (base : Heap) (k : Nat) (f : Addr) (fd : FuncData) (ps : List Str) (sp : Sp) : Prop where
  len : ∀ vs H Q E, sp vs H Q E → vs.length = ps.length
  run : ∀ (A : Around) (outer : List Env) (s : Shared) (H : Hp) (args : Args) (us : List Value) (vs : List V) (Q : VK) (E : XK), Room k A → A.guards = some [] → Env0 P w K mg base A outer s H → BindsTo s fd args (ps.zip us) → Vals vs us → sp vs H Q E →
    codeAny (model P w) A (.call (.ref f) args) (CR (L2.CX P w) outer P w H s Q E) s
theorem FnG.mono {P : Program} {w : World} {K : PySem.W.Frag} {mg : Str → Option Value} {base : Heap} {j k : Nat} {f : Addr} {fd : FuncData} {ps : List Str} {sp : Sp} (F : FnG P w K mg base j f fd ps sp) (h : j ≤ k) :
    FnG P w K mg base k f fd ps sp := ⟨F.len, fun A outer s H args us vs Q E hr => F.run A outer s H args us vs Q E (hr.mono h)⟩
theorem FnG.imp {P : Program} {w : World} {K : PySem.W.Frag} {mg : Str → Option Value} {base : Heap} {k : Nat} {f : Addr} {fd : FuncData} {ps : List Str} {sp sp' : Sp} (F : FnG P w K mg base k f fd ps sp)
    (h : ∀ vs H Q E, sp' vs H Q E → sp vs H Q E) : FnG P w K mg base k f fd ps sp' :=
  ⟨fun vs H Q E q => F.len vs H Q E (h _ _ _ _ q), fun A outer s H args us vs Q E hr hg he hb hv hs => F.run A outer s H args us vs Q E hr hg he hb hv (h _ _ _ _ hs)⟩

theorem fn_ofG {P : Program} {w : World} {K : PySem.W.Frag} {mg : Str → Option Value} {base : Heap} {k : Nat} {f : Addr} {name qual : Str} {params : Arguments} {body : List Stmt} {scope : Scope} {dV kV doc pm cdv ct oc : Value} {an od : Option Addr}
    {osl : Array (Option Value)} {N ps : List Str} {sp : Sp} (lk : K.lookup f = some ⟨oc, od, .func (PySem.W.fnOf name qual params body scope dV kV doc pm an cdv ct), osl⟩) (hcd : PySem.W.codeIn K cdv qual = true) (S : FnScope N ps scope)
    (len : ∀ vs H Q E, sp vs H Q E → vs.length = ps.length)
    (hbody : ∀ (A : Around) (outer : List Env) (s : Shared) (H : Hp) (vs : List V) (Q : VK) (E : XK), Room k (A.deeper (envOfC qual scope s.heap.objs.size f cdv)) → A.guards = some [] → sp vs H Q E →
      ∃ t, PSs (cxOf (L2.CX P w) P w K mg base N qual scope f cdv A outer s H E) body t ∧ t { nx := fun _ H' => Q .non H', rt := Q } (start N vs) H) :
    FnG P w K mg base (k + 1) f (PySem.W.fnOf name qual params body scope dV kV doc pm an cdv ct) ps sp := by
  refine ⟨len, fun A outer s H args us vs Q E hr hgd e0 hb r hsp => ?_⟩
  have hl := len _ _ _ _ hsp
  have KX : K.In s.heap := e0.mod.kin.keeps fun b o e => (e0.bs b o e).1
  have lim : s.heap.NoLimit := e0.mod.nolimit.keeps fun b o e => (e0.bs b o e).1
  have hkind : ∀ y ∈ ps.zip us, scope.names.lookup y.1 = some .local ∨ (scope.names.lookup y.1 = some .cell ∧ ((cellsFrom (s.heap.objs.size + 1) scope.names []).lookup y.1).isSome = true) := fun ⟨n, v⟩ hy => by
    rcases S.par n (List.of_mem_zip hy).1 with q | q
    · exact .inl q
    · exact .inr ⟨q, PySem.W.cellsFrom_some _ _ _ (.inl q)⟩
  refine codeAny_call_function hr.depth (KX _ _ lk) rfl S.co S.gen rfl (PySem.W.codeRec_of KX hcd) (hb _ _ _ _ ?_)
  refine wpAny_newFunctionEnv_cells S.kind hkind fun env he s1 x => ?_
  subst he
  refine ⟨lim.keeps x.toInCall.keep, codeAny_func ?_⟩
  obtain ⟨t, ht, hq⟩ := hbody A outer s H vs Q E (hr.deeper _) hgd hsp
  have I : Inv (cxOf (L2.CX P w) P w K mg base N qual scope f cdv A outer s H E) [] (start N vs) H s1 := inv_start S hr.hd e0 hl r x
  refine wpAny_mono (ht.run [] s1 (start N vs) H _ I hq) (fun fl s' hs => ?_) fun e s' hs => hs
  have fin : ∀ {σ' : L2.St} {H' : Hp} {v : V} {u : Value}, Inv (cxOf (L2.CX P w) P w K mg base N qual scope f cdv A outer s H E) [] σ' H' s' → RelV v u → Q v H' → CE outer P w H s Q u s' :=
    fun {σ' H' v u} J rv q => ⟨v, H', J.os, J.bare, J.base, J.hok, rv, q⟩
  cases fl with
  | ret u =>
    obtain ⟨v, σ', H', J, rv, q⟩ := hs
    exact fin J rv q
  | next =>
    obtain ⟨σ', H', J, q⟩ := hs
    exact fin (v := V.non) (u := Value.none) J rfl q
  | brk =>
    obtain ⟨_, _, _, q⟩ := hs
    exact False.elim q
  | cont =>
    obtain ⟨_, _, _, q⟩ := hs
    exact False.elim q

section
variable {P : Program} {w : World} {K : PySem.W.Frag} {mg : Str → Option Value} {base : Heap}
/-- THE RULE for a def -/
theorem okG {x qual : Str} {st : Stmt} {f : Addr} {fd : FuncData} {N ps : List Str} {k : Nat} {sp : Sp} (F : Fun K x qual st f fd) (S : FnScope N ps (defScope st)) (len : ∀ vs H Q E, sp vs H Q E → vs.length = ps.length)
    (hbody : ∀ (cdv : Value) (A : Around) (outer : List Env) (s : Shared) (H : Hp) (vs : List V) (Q : VK) (E : XK), Room k (A.deeper (envOfC qual (defScope st) s.heap.objs.size f cdv)) → A.guards = some [] → sp vs H Q E →
      ∃ t, PSs (cxOf (L2.CX P w) P w K mg base N qual (defScope st) f cdv A outer s H E) (defBody st) t ∧ t { nx := fun _ H' => Q .non H', rt := Q } (start N vs) H) : FnG P w K mg base (k + 1) f fd ps sp := by
  obtain ⟨oc, od, kV, doc, pm, an, cdv, ct, osl, rfl, lk, hcd⟩ := F.ex
  exact fn_ofG lk hcd S len fun A outer s H vs Q E hr hg hsp => hbody cdv A outer s H vs Q E hr hg hsp
end

theorem pass0G {X : Cx} (σ : L2.St) : PassesAt (L2.CX X.prog X.w) X σ E0 := fun _ _ _ _ _ _ h => by
  obtain ⟨_, _, _, _, _, _, _, _, _, _, _, _, z⟩ := h
  exact z.elim

section
variable {X : Cx} {k : Nat} {f : Addr} {fd : FuncData} {ps ks : List Str} {sp : Sp} {dvs : List V} {ds : List Value} {E : L2.St → XK} {x : Str} {p pos : Pos} {e : Expr} {es : List Expr} {kws : List Keyword} {te ta : TE} {t tk : TA}
theorem run_fnG {pins : List (Addr × Obj)} {σ : L2.St} {H : Hp} {s : Shared} {Q : VK} {us : List Value} {vs : List V} (F : FnG X.prog X.w X.K X.mg X.base k f fd ps sp) (hr : Room k X.A) (hgd : X.A.guards = some []) (hb : Binds X.K fd ps ds) (hd : Vals dvs ds) (hx : PassesAt (L2.CX X.prog X.w) X σ (E σ))
    (I : Inv X pins σ H s) (r : Vals vs us) (h : sp (vs ++ dvs) H Q (E σ)) : wpAny (model X.prog X.w) X.A (call (.ref f) us) (EP X pins σ Q) X.xe s := by
  have r2 : Vals (vs ++ dvs) (us ++ ds) := r.append hd
  have hl : (us ++ ds).length = ps.length := by rw [← r2.length]; exact F.len _ _ _ _ h
  refine wpAny_call (codeAny_mono (F.run X.A X.stack s H ⟨us, []⟩ (us ++ ds) (vs ++ dvs) Q (E σ) hr hgd I.env0 (hb s us I.kIn hl) r2 h) fun r s' hq => ?_)
  cases r with
  | error e => exact hx pins H s e s' I hq
  | ok fl =>
    cases fl with
    | ret u => exact I.after hq
    | next => exact False.elim hq
    | brk => exact False.elim hq
    | cont => exact False.elim hq
/-- f(e, ..) -/
theorem pe_callG (F : FnG X.prog X.w X.K X.mg X.base k f fd ps sp) (hr : Room k X.A) (hgd : X.A.guards = some []) (hg : Gl X x) (hm : X.mg x = some (.ref f)) (hk : PySem.W.keepIn X.K (.ref f) = true) (hb : Binds X.K fd ps ds) (hd : Vals dvs ds) (hx : ∀ σ, PassesAt (L2.CX X.prog X.w) X σ (E σ))
    (ha : PA X (e :: es) t) (hdb : (x == ("__debug__" : Str)) = false := by decide) (he : starEach (e :: es) X.env = (false, eval e X.env) :: starEach es X.env := by rfl) (hpl : (backTo pos (starEach es X.env)).any (·.1) = false := by rfl) :
    PE X (.Call (.Name x p) (e :: es) [] pos) (tCallSD sp dvs E t) := by
  refine ⟨fun pins s σ H Q I h => ?_⟩
  refine wpAny_Call_Name_kw (ld_glob I hg hm ?_ hdb)
  refine PySem.W.callWith_K (h₀ := X.base) I.ok.mod.kin hk (thn (ha.run pos pins s σ H _ I h) fun us s1 ⟨vs, H1, I1, r, q⟩ => ⟨I1.kIn, ?_⟩) he hpl
  exact run_fnG F hr hgd hb hd (hx σ) I1 r q
end

/-! ### repr of data -/
theorem call_reprD {X : Cx} {k : Nat} (hr : Room k X.A) (hgd : X.A.guards = some []) : CallR X (.builtin "repr") (fun xs H Q => ∃ v d, xs = [v] ∧ Dp X.K H v d ∧ d.showable = true ∧ d.hasDict = false ∧ d.depth ≤ 20 ∧ d.shown.length ≤ sizeLine ∧ Q (.str d.shown) H) := by
  intro pins s σ H xs us Q I r h
  obtain ⟨v, d, rfl, hd, hs, hnd, hdp, hz, q⟩ := h
  obtain ⟨u, rfl, ru⟩ := vals1 r
  have hu := hr.units
  obtain ⟨as, rd⟩ := Dp.reads I d v u hd ru
  have fin : ∀ (a : Addr), u = .ref a → wpAny (model X.prog X.w) X.A (call (.builtin "repr") [u]) (EP X pins σ Q) X.xe s := fun a e => by
    subst e
    exact repr_of_reads' rd hs (PyData.noDict_hsm hnd) hgd (by omega) (fun _ _ e => e) (fun h' u tk hk => ⟨.str d.shown, H, I.kept hk, ⟨_, rfl⟩, q⟩) hz
  cases hd with
  | non =>
    cases ru
    simp only [PyData.shown] at q
    exact PySem.P.repr_of_none ⟨.str _, H, I.tok _, ⟨_, rfl⟩, q⟩
  | bl b =>
    cases ru
    simp only [PyData.shown] at q
    exact PySem.P.repr_of_bool ⟨.str _, H, I.tok _, ⟨_, rfl⟩, q⟩
  | int i =>
    obtain ⟨t, rfl⟩ := ru
    simp only [PyData.shown] at q
    exact PySem.P.repr_of_int (by simpa [PyData.showable] using hs) ⟨.str _, H, I.tok _, ⟨_, rfl⟩, q⟩
  | str x =>
    obtain ⟨t, rfl⟩ := ru
    simp only [PyData.shown] at q hz
    exact PySem.P.repr_of_str ⟨.str _, H, I.tok _, ⟨_, rfl⟩, q⟩ hz
  | lst h1 h2 => exact fin _ ru
  | tup h1 h2 => exact fin _ ru

/-! ### list + list, both read -/
open AutoSeq1 in
theorem list_add_any (l : Addr) (items : Array Value) (n : Nat) (sl : Array (Option Value)) (b : Addr) (items2 : Array Value) (n2 : Nat) (sl2 : Array (Option Value)) (hc0 : items.size + items2.size ≤ sizeLine) :
    Meets (Builtin.«list.__add__» ⟨[.ref l, .ref b], []⟩) (fun _ R s => s.heap.get? l = some { cls := .type "list", dict := none, data := .seq items n, slots := sl } ∧ s.heap.get? b = some { cls := .type "list", dict := none, data := .seq items2 n2, slots := sl2 } ∧ R (.ok (.ret (Value.ref s.heap.objs.size))) { s with heap := s.heap.push { cls := Value.type "list", data := Data.seq (items ++ items2) }, toks := s.toks }) :=
  .of_wp fun prog w A R s h => by obtain ⟨hp, g, d, tk, os⟩ := s; obtain ⟨hl, hb, h⟩ := h; have f1 := AutoSeq1.idx_int; have f2 := AutoSeq1.sub_tuple_tuple; have f3 := AutoSeq1.sub_list_list; have f4 := AutoSeq1.sub_tuple_list; have f5 := AutoSeq1.sub_list_tuple; wp_walk using AutoSeq1.wpAny_loadPart' hl, AutoSeq1.wpAny_loadPart' hb; exact ⟨_, rfl, h⟩
def rCatS (K : PySem.W.Frag) : R2 := fun x y H Q => ∃ l b xs zs, x = .ref l ∧ y = .ref b ∧ SqL K H l xs ∧ SqL K H b zs ∧ xs.length + zs.length ≤ sizeLine ∧ ∀ p, H p = none → Q (.ref p) (upd H p (.lst (xs ++ zs)))
theorem op_catS {X : Cx} : OpR X (binaryOp .Add) (rCatS X.K) := by
  intro pins s σ H x y v u Q I rx ry h
  obtain ⟨l, b, xs, zs, rfl, rfl, hH, hB, hz, q⟩ := h
  cases rx
  cases ry
  obtain ⟨its, r, ⟨o, n, e, c, dd, dt⟩, _⟩ := I.list hH
  obtain ⟨its2, r2, ⟨o2, n2, e2, c2, dd2, dt2⟩, _⟩ := I.list hB
  have hl := r.length
  have hl2 := r2.length
  obtain ⟨oc, od, dt0, sl⟩ := o
  obtain ⟨oc2, od2, dt02, sl2⟩ := o2
  dsimp only at c dd dt c2 dd2 dt2
  subst c dd dt c2 dd2 dt2
  refine concat_meets (S := _) ⟨_, e, rfl⟩ ⟨_, e2, rfl⟩ noFill_list_add seq_list_add F.slot_list_add F.entry_list_add (F.args_list_add_2 _ _) (list_add_any l its.toArray n sl b its2.toArray n2 sl2 (by rw [List.size_toArray, List.size_toArray]; omega)) ⟨e, e2, ?_⟩
  have ea : its.toArray ++ its2.toArray = (its ++ its2).toArray := by simp
  rw [ea]
  exact ⟨.ref _, _, I.lnew (t' := s.toks) (r.append r2) (by rw [List.length_append]; omega), rfl, q _ I.fresh⟩
end Rm
set_option Elab.async false
set_option linter.all false
set_option maxRecDepth 100000
set_option maxHeartbeats 4000000
/-! # An own exception, its __init__ made of «super().__init__(f'..{x!r}')» and «self.x = x»: made, over the heap -/
namespace RmX
open PySem PySem.W PySem.Calls PyProof.Rows PySem.HandSPX PySem.Spec
structure BaseX (B newId initId : String) (bmB : List Value) : Prop where
  exc : ExcBaseFacts B newId initId bmB
  st : StoreFacts B bmB "object.__setattr__" "object"
  kx : KxsFacts B initId
theorem base_VE : BaseX "ValueError" "ValueError.__new__" "ValueError.__init__" [.type "ValueError", .type "Exception", .type "BaseException", .type "object"] := ⟨F.excBase_ValueError, F.store_ValueError, kxs_ValueError⟩
theorem base_RE : BaseX "RuntimeError" "RuntimeError.__new__" "RuntimeError.__init__" [.type "RuntimeError", .type "Exception", .type "BaseException", .type "object"] := ⟨F.excBase_RuntimeError, F.store_RuntimeError, kxs_RuntimeError⟩
theorem base_LE : BaseX "LookupError" "LookupError.__new__" "LookupError.__init__" [.type "LookupError", .type "Exception", .type "BaseException", .type "object"] := ⟨F.excBase_LookupError, F.store_LookupError, kxs_LookupError⟩

section
open Builtin Builtin.ObjectAttr
variable {prog : Program} {w : World} {A : Around} {E : Value → Shared → Prop} {R : Result → Shared → Prop} {hp : Heap} {g : Array GenState} {d : Drawn} {t : Nat} {os : OsState} {B newId initId : String} {bmB : List Value}
theorem excTail_ne {l : List Value} (hb : bmB.isEmpty = false) (e : excTail bmB l = true) : l.isEmpty = false := by
  cases l with
  | nil =>
    have z : [] = bmB := beq_iff_eq.mp e
    rw [← z] at hb
    exact hb
  | cons _ _ => rfl
theorem exc_osaB (FB : BaseX B newId initId bmB) {K : W.Frag} {name : Str} {tk : Tok} {v : Value} {x C : Addr} {fv : Array Value} {cd : ClassData}
    (X : K.In hp) (hx : hp.get? x = some { cls := .ref C, data := .fields fv }) (hcd : W.clsIn K C = some cd) (hm : excTail bmB cd.mro = true) (hh : cd.hasDict = true) (ha : W.findIn K (.ref C) name = some none)
    (hq : ∀ h' tk' dx, (∀ b o, b ≠ x → hp.get? b = some o → h'.get? b = some o) → hp.objs.size ≤ dx → dx ≠ x → h'.get? x = some { cls := .ref C, dict := some dx, data := .fields fv } →
      h'.Ns1 dx (fun y => if y = name then some v else none) → R (.ok (.ret .none)) ⟨h', g, d, tk', os⟩) :
    codeAny (model prog w) A (.call (.builtin "object.__setattr__") ⟨[.ref x, .str name tk, v], []⟩) R ⟨hp, g, d, t, os⟩ := by
  have I : W.InstAt hp x { cls := .ref C, data := .fields fv } C none := ⟨hx, rfl, rfl, trivial⟩
  have SF := F.store_object
  have hbE : bmB.isEmpty = false := by
    have z := FB.st.hasOwner
    cases e : bmB with
    | nil => rw [e] at z; exact absurd z (by decide)
    | cons _ _ => rfl
  have ne := excTail_ne hbE hm
  have hob : cd.mro.contains (.type "object") = true := (excTail_contains "object" _ hm).trans FB.st.hasOwner
  have hxs : x ≠ hp.objs.size := Nat.ne_of_lt (Heap.lt_size hx)
  have sub : W.Looks (model prog w) hp (isInstance (.ref x) (.type "object")) true := I.type.andThen (W.looks_mroIn X (by unfold W.mroIn; rw [hcd, Option.bind_some, if_neg (by rw [ne]; decide), hob]))
  refine codeAny_call_builtin SF.slot.plain SF.entry (@W.check_slot (model prog w) _ _ ⟨hp, g, d, t, os⟩ "object.__setattr__" "object" "__setattr__" (.ref x) [.str name tk, v] [] _ SF.kind SF.split sub (SF.args (.ref x) (.str name tk) v) ?_)
  have hmr : W.Looks (model prog w) hp (mroOf (.ref C)) cd.mro := (W.looks_clsIn X hcd).andThen .now
  have L3 : W.Looks (model prog w) hp (storeTaker? none) none := .now
  have hcls : W.Looks (model prog w) hp (classData C) cd := W.looks_clsIn X hcd
  rw [W.osa_eq, refuse_eq]
  refine wpAny_bind (wpAny_bind (I.type.at (wpAny_bind (hmr.at ?_))))
  rw [excTail_pass (.ref x) (FB.st.passes (.ref x)) _ hm]
  refine wpAny_pure (wpAny_bind (I.type.at (wpAny_bind ((W.looks_findIn X ha).at (wpAny_bind (L3.at ?_))))))
  show wpAny _ _ (storeInOwnDict (.ref x) (.ref C) (.str name tk) name v false) _ _ _
  obtain ⟨nm, bs, mro, ns, qn, hd, sn, sb, ab, col, del⟩ := cd
  dsimp only at hh
  subst hh
  unfold storeInOwnDict ownDictForStores
  repeat (first | with_reducible refine HandSPX.store_in_new ?_ ?_ | with_reducible refine wpAny_loadPart_at hx ?_ | with_reducible refine hcls.at ?_ | wp_step)
  · exact ⟨_, #[], _, (Heap.get?_update_ne _ _ _ _ hxs.symm).trans (Heap.get?_push_at rfl rfl), rfl, fun e he => absurd he (by simp), fun _ => rfl⟩
  · intro h' tk' hn' hs
    have hx₁ : (hp.push { cls := .type "dict", data := .dict #[] }).get? x = some { cls := .ref C, data := .fields fv } := Heap.get?_push_of_some _ hx
    refine hq h' tk' hp.objs.size (fun b o hb ho => ?_) (Nat.le_refl _) hxs.symm ?_ hn'
    · exact (hs.2 b (Nat.ne_of_lt (Heap.lt_size ho))).trans ((Heap.get?_update_ne _ _ _ _ hb).trans (Heap.get?_push_of_some _ ho))
    · exact (hs.2 x hxs).trans (Heap.get?_update_self _ hx₁ rfl)
end

section
variable {prog : Program} {w : World} {A : Around} {E : Value → Shared → Prop} {h : Heap} {g : Array GenState} {d : Drawn} {t : Nat} {os : OsState} {B newId initId : String} {bmB : List Value}
variable {nm q : Str} {C N : Addr} {bs bm : List Value} {hdct : Bool} {sn : List Str} {sub : List Value} {ab : Bool} {col : Option Bool} {dd : Option Addr} {k0 k1 k2 k3 k5 : Option Value}
/-- super().__init__(..): the wrapper bound to the object is called -/
theorem call_mw (FB : BaseX B newId initId bmB) {u e t0 : Addr} {rest : List Value} {Q : Value → Shared → Prop}
    (hC : h.get? C = some (excClassObj nm q C N bs bm hdct sn sub ab col dd k0 k1 k2 k3 k5 newId)) (he : h.get? e = some (excO C t0)) (hu : h.get? u = some (kxs_mw initId e)) (hrest : rest.length ≤ sizeLine)
    (hq : ∀ h' t1, (∀ b o, b ≠ e → h.get? b = some o → h'.get? b = some o) → h'.get? e = some (excO C t1) → Q .none ⟨h', g, d, t, os⟩) :
    wpAny (model prog w) A (call (.ref u) rest) Q E ⟨h, g, d, t, os⟩ := by
  refine wpAny_call (codeAny_of_tree ?_)
  show wpAny _ A.in1 (callAny (.ref u) ⟨rest, []⟩) _ _ _
  simp only [callAny]
  refine wpAny_bind (wpAny_load hu ?_)
  simp only [kxs_mw, show (Value.type "method-wrapper" == Value.type "method" || Value.type "method-wrapper" == Value.type "builtin_function_or_method" || Value.type "method-wrapper" == Value.type "method-wrapper") = true by decide, if_true]
  refine KFB.if_so (by decide) ?_
  refine wpAny_bind (check_bound_init FB.exc.toExcCallFacts hC he rfl ?_)
  refine wpAny_bind (wpAny_pure (wpAny_pure ?_))
  refine ⟨plainId_quiet FB.exc.init.plain _, codeAny_builtin FB.exc.initEntry ?_⟩
  exact exc_init_tree (cls := .ref C) (t0 := t0) (dv := none) (c2 := .none) (c3 := .none) (b4 := .bool false) he hrest fun h' k e' t' => hq h' _ k e'
end
end RmX
set_option Elab.async false
set_option linter.all false
set_option maxRecDepth 100000
set_option maxHeartbeats 4000000
namespace RmX
open PySem PySem.W PySem.Calls PyProof.Rows PySem.HandSPX PySem.Spec
theorem eval_mcall {o : Expr} {name : Str} {args : List Expr} {apos pos : Pos} {env : Env} (hpos : (apos.endLine == pos.line) = true) (hform : methodCallForm args.length (backTo pos (starEach args env)) [] = true) :
    eval (.Call (.Attribute o name apos) args [] pos) env = (do
      let ov ← attributeBase o name env (eval o env)
      standAt apos.atName
      let (f, first) ← holding [ov] (getMethod ov name (do return (← importBound o env).getD true))
      callWith pos f first (backTo pos (starEach args env)) []) := by
  show (do
    let ov ← attributeBase o name env (eval o env)
    standAt apos.atName
    methodCall o name apos pos env ov (args.length + 0) (backTo pos (starEach args env)) []) = _
  have e : methodCallForm (args.length + 0) (backTo pos (starEach args env)) [] = true := hform
  simp only [methodCall, calleeOf, methodCallPos, e, hpos, Bool.not_true, Bool.false_or, if_true, pure_bind]
/-! ### the text of __init__ -/
def iA (F : Str) (p1 p2 : Pos) : Arguments := { posonlyargs := [], args := [{ arg := "self", annotation := none, pos := p1 }, { arg := F, annotation := none, pos := p2 }], vararg := none, kwonlyargs := [], kw_defaults := [], kwarg := none, defaults := [] }
def iB (F tx : Str) (q1 q2 q3 q4 q5 q6 q7 q8 q9 r1 r2 r3 r4 : Pos) : List Stmt :=
  [.Expr (.Call (.Attribute (.Call (.Name "super" q1) [] [] q2) "__init__" q3) [.JoinedStr [.Constant (.str tx) 0 q4, .FormattedValue (.Name F q5) 114 none q6] q7] [] q8) q9,
   .Assign [.Attribute (.Name "self" r1) F r2] (.Name F r3) r4]
def iS (F : Str) : Scope := { kind := .function, names := [(PySem.Str.ofString "self", .local), (F, .local), (PySem.Str.ofString "__class__", .free), (PySem.Str.ofString "super", .globalImplicit)], isGenerator := false, isCoroutine := false, more := [] }
/-- what the written part says of the class at C, its __init__ at fI, its field F -/
structure ExT (P : Program) (K : Frag) (mg : Str → Option Value) (C fI : Addr) (F : Str) (B newId initId : String) (bmB : List Value) : Prop where
  cls : ∃ nm q N bs bm sn sub ab col dd k0 k1 k2 k3 k5, K.lookup C = some (excClassObj nm q C N bs bm true sn sub ab col dd k0 k1 k2 k3 k5 newId) ∧ excTail bmB bm = true
  sa : findIn K (.ref C) "__setattr__" = some (some (.builtin "object.__setattr__"))
  ga : findIn K (.ref C) "__getattribute__" = some (some (.builtin "BaseException.__getattribute__"))
  gg : findIn K (.ref C) "__getattr__" = some none
  noF : findIn K (.ref C) F = some none
  iC : findIn K (.ref C) "__init__" = some (some (.ref fI))
  tI : typeIn K (.ref fI) = some (.type "function")
  kC : keepIn K (.ref C) = true
  exC : subIn K (.ref C) (.type "BaseException") = some true
  tyC : typeIn K (.ref C) = some (.type "type")
  hdC : hasDictIn K C = true
  sup : ks_superIn K C C "__init__" = some (some (.builtin initId))
  hB : subIn K (.ref C) (.type B) = some true
  self : mroIn K C (.ref C) = some true
  opq : nsIn K cStatics "thirdparty.any" = some none
  nsup : nsIn K mainGlobals "super" = some none
  /-- isinstance -/
  ca : findIn K (.ref C) "__class__" = some (some (.builtin "object.__class__"))
  cn : specialIn K (.builtin "object.__class__") "__get__" = some (some (.builtin "getset_descriptor.__get__"))
  ct : takesIn K (.builtin "object.__class__") = some true
  cm : mroIn K C (.type "object") = some true
  fn : ∃ (oc : Value) (od : Option Addr) (doc pm : Value) (an : Option Addr) (cda cc : Addr) (ct : Value) (osl : Array (Option Value)) (p1 p2 q1 q2 q3 q4 q5 q6 q7 q8 q9 r1 r2 r3 r4 : Pos) (qual tx : Str), (q3.endLine == q8.line) = true ∧
    K.lookup fI = some ⟨oc, od, .func (fnX "__init__" qual (iA F p1 p2) (iB F tx q1 q2 q3 q4 q5 q6 q7 q8 q9 r1 r2 r3 r4) (iS F) [("__class__", cc)] .none .none doc pm an (.ref cda) ct), osl⟩ ∧ codeIn K (.ref cda) qual = true ∧ tx.length ≤ 200 ∧
    (∃ cl cld csl, K.lookup cc = some ⟨cl, cld, .cell (some (.ref C)), csl⟩) ∧
    ∃ ccl cdd vs ccs file tf, K.lookup cda = some ⟨ccl, cdd, .fields vs, ccs⟩ ∧ vs[2]? = some (.str file tf) ∧ ((P.main.file : Str) == file) = true
  top : (P.main.scope.names.lookup ("super" : Str)).isSome = false
/-- the field's name -/
structure FName (F : Str) : Prop where
  l1 : (iS F).names.lookup F = some .local
  l2 : (F == ("__debug__" : Str)) = false
  l3 : (("self" : Str) == F) = false
  l4 : (F == ("self" : Str)) = false
  l5 : (iS F).names.lookup ("__class__" : Str) = some .free
  l6 : (iS F).names.lookup ("super" : Str) = some .globalImplicit
  l7 : (iS F).names.lookup ("self" : Str) = some .local
  bd : ∀ (qual : Str) (p1 p2 : Pos) (body : List Stmt) (cl : List (Str × Addr)) (doc pm cdv ct : Value) (an : Option Addr) (x v : Value), bindArgs (fnX "__init__" qual (iA F p1 p2) body (iS F) cl .none .none doc pm an cdv ct) ⟨[x, v], []⟩ = pure [(("self" : Str), x), (F, v)]
  bk : ∀ (qual : Str) (p1 p2 : Pos) (body : List Stmt) (cl : List (Str × Addr)) (doc pm cdv ct : Value) (an : Option Addr) (x v : Value), bindArgs (fnX "__init__" qual (iA F p1 p2) body (iS F) cl .none .none doc pm an cdv ct) ⟨[x], [(F, v)]⟩ = pure [(("self" : Str), x), (F, v)]
/-- what __init__ leaves of a fresh exception at x -/
structure InitEnd (h h' : Heap) (x C dx t1 : Addr) (F : Str) (v : Value) : Prop where
  keep : ∀ b o, b ≠ x → h.get? b = some o → h'.get? b = some o
  obj : h'.get? x = some { cls := .ref C, dict := some dx, data := .fields #[.ref t1, .none, .none, .none, .bool false, .none] }
  dbig : h.objs.size ≤ dx
  dne : dx ≠ x
  ns : h'.Ns1 dx (fun y => if y = F then some v else none)
/-- how v is shown: some text of bounded length, nothing of the heap is changed -/
def Shown (prog : Program) (w : World) (A : Around) (h : Heap) (v : Value) : Prop :=
  ∀ (D : Around) (E : Value → Shared → Prop) (Q : Value → Shared → Prop) (s : Shared), D.guards = A.guards → D.units ≤ A.units + 8 → (∀ b o, h.get? b = some o → s.heap.get? b = some o) →
    (∀ (x : Str) (u : Tok) (h' : Heap) (tk : Tok), x.length ≤ 1000000 → (∀ b o, s.heap.get? b = some o → h'.get? b = some o) → Q (.str x u) { s with heap := h', toks := tk }) → wpAny (model prog w) D (pyReprObj v) Q E s
section
variable {prog : Program} {w : World} {A : Around} {E : Value → Shared → Prop} {R : Result → Shared → Prop} {s : Shared} {K : Frag} {mg mb : Str → Option Value} {C fI : Addr} {F : Str} {B newId initId : String} {bmB : List Value}
theorem init_run (FB : BaseX B newId initId bmB) (T : ExT prog K mg C fI F B newId initId bmB) (N : FName F) {x t0 : Addr} {v : Value} (X : K.In s.heap) (hlim : s.heap.NoLimit) (hg : s.heap.Ns mainGlobals mg) (hmg : mg "super" = none) (hb : s.heap.Ns builtinsNs mb) (hmb : mb "super" = some (.type "super"))
    (hx : s.heap.get? x = some (excO C t0)) (hnx : K.lookup x = none) (hroom : A.depth < recursionLimit) (hsh : Shown prog w A s.heap v)
    (hq : ∀ h' tk dx t1, InitEnd s.heap h' x C dx t1 F v → R (.ok (.ret .none)) { s with heap := h', toks := tk }) :
    codeAny (model prog w) A (.call (.ref fI) ⟨[.ref x, v], []⟩) R s := by
  obtain ⟨oc, od, doc, pm, an, cda, cc, ct, osl, p1, p2, q1, q2, q3, q4, q5, q6, q7, q8, q9, r1, r2, r3, r4, qual, tx, hpos, ho, hcd, htx, ⟨cl, cld, csl, hcc⟩, ccl, cdd, vs, ccs, file, tf, hcode, hvs, hfile⟩ := T.fn
  obtain ⟨nm, q, N', bs, bm, sn, sub, ab, col, dd, k0, k1, k2, k3, k5, hC, hbm⟩ := T.cls
  have hcl : clsIn K C = some { name := nm, bases := bs, mro := .ref C :: bm, ns := N', qualname := q, hasDict := true, slotNames := sn, subclasses := sub, abstract := ab, collection := col, hasDel := false } := by unfold clsIn; rw [hC] <;> rfl
  refine ks_codeAny_call_defAt (binds := [("self", .ref x), (F, v)]) hroom (X _ _ ho) rfl hlim (codeRec_of X hcd) rfl (BindsTo.of_eq (N.bd ..)) (by intro y hy; simp only [iS, List.mem_cons, List.mem_nil_iff, or_false] at hy; rcases hy with rfl | rfl | rfl | rfl <;> simp) (fun y hy => ?_) (fun h₁ hn hk => ?_) rfl rfl rfl
  · simp only [List.mem_cons, List.mem_nil_iff, or_false] at hy
    rcases hy with rfl | rfl
    · rfl
    · exact N.l1
  · have X₁ : K.In h₁ := X.keeps hk
    have hx₁ := hk _ _ hx
    have mself : (fun y => [(("self" : Str), Value.ref x), (F, v)].reverse.lookup y) ("self" : Str) = some (.ref x) := by
      show List.lookup ("self" : Str) [(F, v), (("self" : Str), Value.ref x)] = some (.ref x)
      rw [List.lookup_cons, N.l3]
      rfl
    have mF : (fun y => [(("self" : Str), Value.ref x), (F, v)].reverse.lookup y) F = some v := by
      show List.lookup F [(F, v), (("self" : Str), Value.ref x)] = some v
      rw [List.lookup_cons, beq_self_eq_true]
    have hD1 : h₁.get? C = some (excClassObj nm q C N' bs bm true sn sub ab col dd k0 k1 k2 k3 k5 newId) := X₁ _ _ hC
    refine ks_wpAt_execs_cons (ks_wpAt_Expr_any (ks_wpAt_MethodCall ?_ (eval_mcall hpos (by rfl))) rfl rfl)
    refine ks_wpAt_super_base (f := fI) (cc := cda) N.l6 N.l5 rfl rfl (X₁ _ _ ho) rfl rfl rfl (X₁ _ _ hcode) rfl hvs hfile T.top ?_
    refine ks_loadName_global rfl N.l6 (loadGlobal_builtin (mg := mg) (mb := mb) (hg.keeps hk) hmg (hb.keeps hk) hmb ⟨rfl, ?_⟩)
    refine wpAny_loadName_free rfl N.l5 rfl ⟨_, X₁ _ _ hcc, rfl⟩ ?_
    refine wpAny_loadName_local rfl N.l7 hn mself ?_
    refine ks_wpAny_isType_cls hD1 rfl ⟨rfl, ?_⟩
    refine ks_wpAny_call_super hD1 rfl hx₁ rfl (fun c z => by cases z) (looks_mroIn X₁ T.self) (fun h₂ e₂ k₂ => ?_)
    have X₂ : K.In h₂ := X₁.keeps k₂
    have I₂ : InstAt h₂ x (excO C t0) C none := ⟨k₂ _ _ hx₁, rfl, rfl, trivial⟩
    have hxC : x ≠ C := fun z => by
      rw [z, hD1] at hx₁
      cases hx₁
    have hsup := T.sup
    unfold ks_superIn at hsup
    rw [hcl] at hsup
    refine kxs_getMethod FB.kx e₂ (looks_opaque X₂ T.opq) (l₀ := .ref C :: bm) (fun A Q E s k q => wpAny_bind ((looks_clsIn X₂ hcl) A _ E s k (wpAny_pure q))) rfl X₂ hsup (I₂.type.andThen (looks_subIn X₂ T.hB)) hxC rfl ?_
    show wpAny _ _ (callWith q8 (.ref h₂.objs.size) [] _ []) _ _ _
    refine kxs_callWith (i := initId) (x := x) rfl ?_
    refine evalArgs_plain (spliced_cons ?_)
    have k₃ : ∀ b o, s.heap.get? b = some o → (h₂.push (kxs_mw initId x)).get? b = some o := fun b o e => Heap.get?_push_of_some _ (k₂ _ _ (hk _ _ e))
    have hmw : (h₂.push (kxs_mw initId x)).get? h₂.objs.size = some (kxs_mw initId x) := Heap.get?_push_at rfl rfl
    refine wpAny_JoinedStr (pos := q7) ?_
    refine Joins_cons (Constant_str ⟨tx, _, rfl, ?_, ?_⟩)
    · show (Str.empty ++ tx).length ≤ sizeLine
      rw [strLen_append, sizeLine_eq]
      have : Str.empty.length = 0 := rfl
      omega
    refine Joins_cons (wpAny_FormattedValue_repr (wpAny_Name (wpAny_loadName_local rfl N.l1 (hn.keeps fun b o e => Heap.get?_push_of_some _ (k₂ _ _ e)) mF ?_) N.l2))
    refine hsh _ _ _ _ (by rfl) (by show A.units + 3 ≤ _; omega) k₃ fun y u h₄ tk₄ hy k₄ => ?_
    have hyz : y.length ≤ sizeLine := Nat.le_trans hy (by rw [sizeLine_eq]; decide)
    refine PyProof.Rows.formatField_str (fun u' tk' => ⟨y, u', rfl, ?_, ?_⟩) hyz
    · rw [strLen_append, strLen_append, sizeLine_eq]
      have : Str.empty.length = 0 := rfl
      omega
    refine Joins_nil ⟨?_, spliced_nil ⟨?_, ?_⟩⟩
    · rw [strLen_append, strLen_append, sizeLine_eq]
      have : Str.empty.length = 0 := rfl
      omega
    · exact k₄ _ _ hmw
    have hx₄ : h₄.get? x = some (excO C t0) := k₄ _ _ (k₃ _ _ hx)
    have hC₄ := k₄ _ _ (k₃ _ _ (X _ _ hC))
    refine call_mw FB hC₄ hx₄ (k₄ _ _ hmw) (by show 1 ≤ sizeLine; rw [sizeLine_eq]; decide) fun h₅ t₅ k₅ hx₅ => ?_
    -- self.F = F
    have k₀₄ : ∀ b o, s.heap.get? b = some o → h₄.get? b = some o := fun b o e => k₄ _ _ (k₃ _ _ e)
    have X₅ : K.In h₅ := fun b o e => k₅ b o (fun z => by rw [z, hnx] at e; cases e) (k₀₄ _ _ (X _ _ e))
    have hn₅ : h₅.Ns s.heap.objs.size (fun y => [(("self" : Str), Value.ref x), (F, v)].reverse.lookup y) := by
      obtain ⟨oL, es, ep, e1, e2⟩ := hn
      have hxL : s.heap.objs.size ≠ x := Nat.ne_of_gt (Heap.lt_size hx)
      exact ⟨oL, es, ep, k₅ _ _ hxL (k₄ _ _ (Heap.get?_push_of_some _ (k₂ _ _ e1))), e2⟩
    refine wpAt_of_wpAny (wpAny_execs_cons (plainObj_wpAny_Assign_Attribute ?_))
    refine wpAny_Name (wpAny_loadName_local rfl N.l1 hn₅ mF ?_) N.l2
    refine wpAny_Name (wpAny_loadName_local rfl N.l7 hn₅ mself ?_) (by decide)
    refine set_plain X₅ (ox := excO C t₅) (od := none) ⟨hx₅, rfl, rfl, trivial⟩ T.sa ?_
    refine exc_osaB FB X₅ hx₅ hcl hbm rfl T.noF (fun h₆ tk₆ dx k₆ dn dne hx₆ hn₆ => ?_)
    refine wpAny_execs_nil ?_
    refine hq h₆ tk₆ dx t₅ ⟨fun b o hb e => k₆ b o hb (k₅ b o hb (k₀₄ b o e)), hx₆, ?_, dne, hn₆⟩
    exact Nat.le_of_lt (Nat.lt_of_lt_of_le hn₅.lt dn)
/-- a made exception of the class at C -/
structure OwnMade (h h' : Heap) (e C d : Addr) (F : Str) (v : Value) : Prop where
  keep : ∀ b o, h.get? b = some o → h'.get? b = some o
  new : h.objs.size ≤ e
  obj : ∃ t1, h'.get? e = some { cls := .ref C, dict := some d, data := .fields #[.ref t1, .none, .none, .none, .bool false, .none] }
  dbig : h.objs.size ≤ d
  dne : d ≠ e
  ns : h'.Ns1 d (fun y => if y = F then some v else none)
theorem exc_made (FB : BaseX B newId initId bmB) (T : ExT prog K mg C fI F B newId initId bmB) (N : FName F) {v : Value} (X : K.In s.heap) (hlim : s.heap.NoLimit) (hg : s.heap.Ns mainGlobals mg) (hmg : mg "super" = none) (hb : s.heap.Ns builtinsNs mb) (hmb : mb "super" = some (.type "super"))
    (hroom : A.depth + 1 < recursionLimit) (hsh : ∀ B : Around, B.guards = A.guards → B.units ≤ A.units + 8 → Shown prog w B s.heap v)
    (hq : ∀ h' tk e d, OwnMade s.heap h' e C d F v → R (.ok (.ret (.ref e))) { s with heap := h', toks := tk }) :
    codeAny (model prog w) A (.call (.ref C) ⟨[v], []⟩) R s := by
  obtain ⟨nm, q, N', bs, bm, sn, sub, ab, col, dd, k0, k1, k2, k3, k5, hC, hbm⟩ := T.cls
  obtain ⟨hp, g, dr, tk, os⟩ := s
  have k : ∀ b o, hp.get? b = some o → ((hp.push (kdv_tup [v])).push (excO C hp.objs.size)).get? b = some o := fun b o e => Heap.get?_push_of_some _ (Heap.get?_push_of_some _ e)
  have hget : ((hp.push (kdv_tup [v])).push (excO C hp.objs.size)).get? (hp.objs.size + 1) = some (excO C hp.objs.size) := by heap_get
  have hnx : K.lookup (hp.objs.size + 1) = none := by
    cases e : K.lookup (hp.objs.size + 1) with
    | none => rfl
    | some o =>
      have z : hp.get? (hp.objs.size + 1) = some o := X _ _ e
      exact absurd (Nat.lt_of_succ_lt (Heap.lt_size z)) (Nat.lt_irrefl _)
  refine call_own FB.exc (fun X => excTail_contains X bm hbm) (X _ _ hC) (looks_findIn X T.iC) (fun self => bind_fn X self T.tI) (by show 1 ≤ sizeLine; rw [sizeLine_eq]; decide) ?_
  refine init_run (s := ⟨(hp.push (kdv_tup [v])).push (excO C hp.objs.size), g, dr, tk, os⟩) FB T N (X.keeps k) (hlim.keeps k) (hg.keeps k) hmg (hb.keeps k) hmb hget hnx ?_ ?_ fun h' tk' dx t1 hE => ?_
  · show A.depth + 1 < recursionLimit
    exact hroom
  · intro D E' Q' s' hdg hdu hk hQ
    refine hsh _ ?_ ?_ D E' Q' s' hdg hdu (fun b o e => hk _ _ (k _ _ e)) hQ
    · rfl
    · rw [L2.make_units]; omega
  · obtain ⟨k', hx, dn, dne, hns⟩ := hE
    have old : ∀ b o, hp.get? b = some o → h'.get? b = some o := fun b o e => k' b o (Nat.ne_of_lt (Nat.lt_succ_of_lt (Heap.lt_size e))) (k b o e)
    have z : hp.objs.size + 1 + 1 ≤ dx := by
      first
        | (simpa only [Heap.size_push] using dn)
        | exact dn
        | (have q := dn; rw [Heap.size_push, Heap.size_push] at q; exact q)
    exact ⟨rfl, hq h' tk' (hp.objs.size + 1) dx ⟨old, Nat.le_succ _, ⟨t1, hx⟩, Nat.le_trans (Nat.le_trans (Nat.le_succ _) (Nat.le_succ _)) z, dne, hns⟩⟩
end
end RmX
set_option Elab.async false
set_option linter.all false
set_option maxRecDepth 100000
set_option maxHeartbeats 4000000
namespace Rm
open PySem PySem.Spec PyProof.Rows L2 RmX

/-! ### data, shown -/
/-- what may stand in an error or be handed to repr -/
def Fit (d : PyData) : Prop := d.showable = true ∧ d.hasDict = false ∧ d.depth ≤ 20 ∧ d.shown.length ≤ 1000000
theorem shown_of {prog : Program} {w : World} {A : Around} {h : Heap} {u : Value} {d : PyData} {as : List Addr} (hg : A.guards = some []) (hu : A.units + 60 < cLine) (rd : Reads h u d as) (f : Fit d) : Shown prog w A h u := by
  intro D E Q s hdg hdu hk hQ
  obtain ⟨hs, hnd, hdp, hz⟩ := f
  have hz' : d.shown.length ≤ sizeLine := Nat.le_trans hz (by rw [sizeLine_eq]; decide)
  cases rd with
  | none =>
    simp only [PyData.shown] at hz
    exact pyReprObj_none (hQ _ _ s.heap _ hz fun _ _ e => e)
  | bool =>
    simp only [PyData.shown] at hz
    exact pyReprObj_bool (hQ _ _ s.heap _ hz fun _ _ e => e)
  | int =>
    simp only [PyData.shown] at hz
    exact pyReprObj_int (by simpa [PyData.showable] using hs) (hQ _ _ s.heap _ hz fun _ _ e => e)
  | str =>
    simp only [PyData.shown] at hz hz'
    exact pyReprObj_str (hQ _ _ s.heap _ hz fun _ _ e => e) hz'
  | list h1 h2 h3 h4 => exact pyReprObj_of_reads (.list h1 h2 h3 h4) hs (PyData.noDict_hsm hnd) (hdg.trans hg) (by omega) hk (fun h' u tk hk' => hQ _ _ h' tk hz hk') hz'
  | tuple h1 h2 h3 h4 => exact pyReprObj_of_reads (.tuple h1 h2 h3 h4) hs (PyData.noDict_hsm hnd) (hdg.trans hg) (by omega) hk (fun h' u tk hk' => hQ _ _ h' tk hz hk') hz'
  | dict h1 h2 h3 h4 h5 => exact absurd hnd (by simp [PyData.hasDict])

/-! ### C(e): an own exception is made -/
theorem relO_one {F : Str} {v : V} {v' : Value} (r : RelV v v') (f : Str) : RelO (List.lookup f [(F, v)]) (if f = F then some v' else none) := by
  by_cases hw : f = F
  · subst hw
    rw [if_pos rfl]
    have q : List.lookup f [(f, v)] = some v := by simp [List.lookup]
    rw [q]
    exact r
  · rw [if_neg hw]
    have qw : (f == F) = false := by simpa using hw
    have q2 : List.lookup f [(F, v)] = none := by simp [List.lookup, qw]
    rw [q2]
    trivial
def tMkX (K : PySem.W.Frag) (C : Addr) (F : Str) (ta : TA) : L2.St → Hp → XK → Prop := fun σ H Q => ta σ H fun vs H1 => ∃ v d, vs = [v] ∧ Dp K H1 v d ∧ Fit d ∧ ∀ dx, H1 dx = none → Q (.ref C) (some dx) (upd H1 dx (.xd [(F, v)]))
section
variable {X : Cx} {C fI : Addr} {F : Str} {B newId initId : String} {bmB : List Value} {a : Expr} {ta : TA} {x : Str} {p pos : Pos} {k : Nat}
theorem pmk_x (FB : BaseX B newId initId bmB) (T : ExT X.prog X.K X.mg C fI F B newId initId bmB) (N : FName F) (hr : Room k X.A) (hgd : X.A.guards = some []) (hg : Gl X x) (gC : X.mg x = some (.ref C)) (hsu : X.mg "super" = none) (ha : PA X [a] ta)
    (hdb : (x == ("__debug__" : Str)) = false := by decide)
    (he : starEach (a :: []) X.env = (false, eval a X.env) :: starEach [] X.env := by rfl) (hpl : (backTo pos (starEach [] X.env)).any (·.1) = false := by rfl) :
    PMk X (.Call (.Name x p) [a] [] pos) (tMkX X.K C F ta) := by
  intro pins s σ H Q I h
  refine wpAny_Call_Name_kw (ld_glob I hg gC ?_ hdb)
  refine PySem.W.callWith_K (h₀ := X.base) I.ok.mod.kin T.kC (thn (ha.run pos pins s σ H _ I h) fun us s1 hh => ?_) he hpl
  obtain ⟨vs, H1, I1, r1, v, d, ev, hd, hf, q1⟩ := hh
  subst ev
  refine ⟨I1.kIn, ?_⟩
  cases r1 with
  | cons rv rn =>
    rename_i v' us'
    cases rn
    show wpAny _ _ (call (.ref C) [v']) _ _ _
    have hlim := I1.nolimit
    obtain ⟨as, rd⟩ := Dp.reads I1 d v v' hd rv
    have hun := hr.un
    have hdp := hr.dp
    obtain ⟨mb, hb1, hb2⟩ := I1.mod.blt
    obtain ⟨hp, g, dr, tk, os⟩ := s1
    refine wpAny_call (exc_made FB T N I1.kIn hlim (I1.mod.glob.keeps I1.bk) hsu (hb1.keeps I1.bk) ((hb2 _ (by decide)).trans (by decide +kernel)) (by omega) (fun D hD hDu => shown_of (hD.trans hgd) (by omega) rd hf) fun h' tk' e d M => ?_)
    show MkP X pins σ Q (.ref e) ⟨h', g, dr, tk', os⟩
    obtain ⟨t1, hoe⟩ := M.obj
    have hns := M.ns
    obtain ⟨G', g1, g2⟩ := restrict h' fun b => decide (b ≠ e)
    have gk : ∀ b, b ≠ e → G'.get? b = h'.get? b := fun b hb => g1 b (decide_eq_true hb)
    have ge : G'.get? e = none := g2 e (by simp)
    have old : ∀ b o, hp.get? b = some o → G'.get? b = some o := fun b o q => (gk b (Nat.ne_of_lt (Nat.lt_of_lt_of_le (Heap.lt_size q) M.new))).trans (M.keep b o q)
    have ob : ObjOk X.prog X.w (upd H1 d (.xd [(F, v)])) G' d (.xd [(F, v)]) :=
      ⟨_, hns.at (fun o q => (gk d M.dne).trans q), fun f => relO_one rv f⟩
    have J : Inv X pins σ (upd H1 d (.xd [(F, v)])) ⟨G', g, dr, tk', os⟩ := I1.laid (t' := tk') old M.dbig ob
    refine ⟨e, _, _, ⟨G', g, dr, tk', os⟩, _, .ref C, some d, rfl, J, fun b o q => ?_, ge, hoe, ⟨rfl, rfl⟩, rfl, rfl, ?_, rfl, I1.bare, raises_own T.exC T.tyC, q1 d (I1.hok.fresh M.dbig)⟩
    · by_cases hb : b = e
      · have q' : G'.get? b = some o := q
        rw [hb, ge] at q'; cases q'
      · exact (gk b hb).symm.trans q
    · rw [upd_ne (Ne.symm M.dne)]
      exact I1.hok.fresh M.new
/-- raise C(e) -/
def tRaiseX (K : PySem.W.Frag) (C : Addr) (F : Str) (W : WX) (ta : TA) : TS := fun _ σ H => tMkX K C F ta σ H fun cls d H' => W cls d σ H'
theorem ps_raiseX {W : WX} {pos2 : Pos} (hc : X.calm = true) (FB : BaseX B newId initId bmB) (T : ExT X.prog X.K X.mg C fI F B newId initId bmB) (N : FName F) (hr : Room k X.A) (hgd : X.A.guards = some []) (gC : X.mg x = some (.ref C)) (hsu : X.mg "super" = none) (tk : Takes X W) (ha : PA X [a] ta) (hg : Gl X x := by rfl)
    (hdb : (x == ("__debug__" : Str)) = false := by decide) (he : starEach (a :: []) X.env = (false, eval a X.env) :: starEach [] X.env := by rfl) (hpl : (backTo pos (starEach [] X.env)).any (·.1) = false := by rfl) :
    PS X (.Raise (some (.Call (.Name x p) [a] [] pos)) none pos2) (tRaiseX X.K C F W ta) := ps_raise hc tk (pmk_x FB T N hr hgd hg gC hsu ha hdb he hpl)
end

/-! ### an exception that was caught and is kept by a name -/
/-- an exception of the class C at a, its dict at dx -/
def exv (a C dx : Addr) : HO := .ext fun h => ∃ (oe : Obj) (vs : Array Value), h.get? a = some oe ∧ oe.cls = .ref C ∧ oe.dict = some dx ∧ oe.data = .fields vs
theorem exv_ok {P : Program} {w : World} {H : Hp} {h : Heap} {a C dx : Addr} {oe : Obj} {vs : Array Value} (e : h.get? a = some oe) (c : oe.cls = .ref C) (d : oe.dict = some dx) (f : oe.data = .fields vs) : ObjOk P w H h a (exv a C dx) :=
  ⟨⟨oe, vs, e, c, d, f⟩, ⟨oe, e⟩, fun _ _ ⟨o, v, q, r⟩ k => ⟨o, v, k o q, r⟩⟩
theorem exv_at {P : Program} {w : World} {H : Hp} {h : Heap} {a C dx : Addr} (hok : HOk P w H h) (e : H a = some (exv a C dx)) : ∃ (oe : Obj) (vs : Array Value), h.get? a = some oe ∧ oe.cls = .ref C ∧ oe.dict = some dx ∧ oe.data = .fields vs := by
  have x : ObjOk P w H h a (.ext fun h => ∃ (oe : Obj) (vs : Array Value), h.get? a = some oe ∧ oe.cls = .ref C ∧ oe.dict = some dx ∧ oe.data = .fields vs) := hok a _ e
  exact x.1
section
variable {X : Cx} {pins : List (Addr × Obj)} {σ : L2.St} {H : Hp} {s : Shared}
/-- an object that was laid since the entry is tracked from now on -/
theorem track {a : Addr} {o : HO} (I : Inv X pins σ H s) (na : H a = none) (nL : a ≠ X.env.locals) (nC : ∀ x c, X.env.cells.lookup x = some c → c ≠ a) (nP : ∀ p ∈ X.pn ++ pins, p.1 ≠ a) (n0 : X.s_0.heap.get? a = none)
    (new : ObjOk X.prog X.w (upd H a o) s.heap a o) : Inv X pins σ (upd H a o) s := by
  have ne0 : ∀ b u, X.s_0.heap.get? b = some u → b ≠ a := fun b u e z => by rw [z, n0] at e; cases e
  have neH : ∀ b u, H b = some u → b ≠ a := fun b u e z => by rw [z, na] at e; cases e
  refine ⟨I.ok, I.os, I.bare, ⟨I.base.keep, I.base.slot, fun b u e n hx => ?_, I.base.there, fun b xs e => ?_, fun b u xs e => ?_, fun b ps e => ?_⟩, I.loc, I.cell, ?_, fun x c e => ?_, fun p hp => ?_, fun b u e => ?_, I.len⟩
  · rw [upd_ne (ne0 b u e)]
    exact I.base.free b u e n hx
  · have q := I.base.tups b xs e
    rw [upd_ne (neH b _ q)]
    exact q
  · have q := I.base.frzs b u xs e
    rw [upd_ne (neH b _ q)]
    exact q
  · obtain ⟨m, q⟩ := I.base.tbls b ps e
    exact ⟨m, by rw [upd_ne (neH b _ q)]; exact q⟩
  · rw [upd_ne (Ne.symm nL)]
    exact I.free
  · rw [upd_ne (nC x c e)]
    exact I.freeC x c e
  · obtain ⟨e, n, r⟩ := I.pin p hp
    exact ⟨e, by rw [upd_ne (nP p hp)]; exact n, r⟩
  · by_cases hb : b = a
    · subst hb
      rw [upd_same] at e
      cases e
      exact new
    · rw [upd_ne hb] at e
      exact (I.hok b u e).stay (fun _ _ _ q => q) (fun c q => by rw [upd_ne (neH c _ q)]; exact q) fun c xs q => by rw [upd_ne (neH c _ q)]; exact q
end
theorem flying_keeps {base h h' : Heap} {l : List Env} {e : Addr} {Z : Obj → Prop} (x : HandSPX.FlyingZ base l e Z h) (k : ∀ b o, h.get? b = some o → h'.get? b = some o) : HandSPX.FlyingZ base l e Z h' := by
  obtain ⟨a1, a2, a3, oe, vs, T, oT, ts, he, hz, hd, h1, hn, hT, ho, hts, h3⟩ := x
  exact ⟨fun b o e => k _ _ (a1 b o e), a2, a3.of_keeps fun b o e _ => ⟨o, k _ _ e, rfl⟩, oe, vs, T, oT, ts, k _ _ he, hz, hd, h1, hn, hT, k _ _ ho, hts, h3⟩

/-- what the clause «except (c1, c2, c3) as n: ..» wishes, where behind the suite the exception is kept -/
def wKeep (K : PySem.W.Frag) (c1 c2 c3 : Addr) (i : Nat) (ts : Addr → TS) (D : Ends) : WX := fun cls d σ H =>
  PySem.W.exmAny K cls [.ref c1, .ref c2, .ref c3] = some true ∧ ∃ C dx, cls = .ref C ∧ d = some dx ∧
    ∀ a, H a = none → ts a { nx := fun σ' H' => H' a = none ∧ D.nx (σ'.set i none) (upd H' a (exv a C dx)), rt := fun _ _ => False, bk := fun _ _ => False, ct := fun _ _ => False } (σ.set i (some (.ref a))) H
section
variable {X : Cx} {n x1 x2 x3 : Str} {p1 p2 p3 : Pos} {i : Nat} {c1 c2 c3 : Addr} {body suite : List Stmt} {b₀ : Stmt} {np pos pos' : Pos} {kt : Nat} {tb : WX → TS} {ts : Addr → TS}
theorem ps_try_keep (hs : X.stack = X.env :: X.outer) (hf : X.env.frame = some X.env.locals) (hN : X.N.Nodup) (hi : X.N[i]? = some n) (hln : X.env.kindOf n = some .local) (hex : X.ex = [])
    (hc1 : Names X x1 (.ref c1)) (hc2 : Names X x2 (.ref c2)) (hc3 : Names X x3 (.ref c3))
    (hb : ∀ (W : WX) (pn : List (Addr × Obj)) (xe : Value → Shared → Prop), Takes (X.tr pn xe) W → PassesOwn (model X.prog X.w) X.A X.env xe → PSs (X.tr pn xe) body (tb W))
    (hsu : ∀ (a : Addr) (oe : Obj) (pn : List (Addr × Obj)), PSs (X.suite a ((a, oe) :: pn)) (b₀ :: suite) (ts a)) :
    PS X (.Try body [.ExceptHandler (some (.Tuple [.Name x1 p1, .Name x2 p2, .Name x3 p3] kt np)) (some n) (b₀ :: suite) pos'] [] [] pos) (fun D σ H => tb (wKeep X.K c1 c2 c3 i ts D) D σ H) := by
  refine ⟨fun pins s σ H D I h => ?_⟩
  have ok := I.ok
  have hfr : X.A.frames = some (X.env :: X.outer) := by rw [ok.frames, hs]
  have hloc : Loc X.env.scope n := .inl hln
  refine wpAny_Try_except ?_
  refine wpAny_mono ((hb (wKeep X.K c1 c2 c3 i ts D) (X.pn ++ pins) (fun e s₁ => wpAny (model X.prog X.w) X.A (noteFrame e X.env) (fun _ s₂ => wpAny (model X.prog X.w) X.A (setFlight e none) (fun _ s₃ =>
    wpAny (model X.prog X.w) X.A (handleBy e X.env [.ExceptHandler (some (.Tuple [.Name x1 p1, .Name x2 p2, .Name x3 p3] kt np)) (some n) (b₀ :: suite) pos']) (SP X pins D) X.xe s₃) X.xe s₂) X.xe s₁) (fun u s' xx => ?_) PassesOwn.looking).run [] s σ H D (I.toTry _) h) (fun f s1 hsp => ?_) (fun e s1 he => he)
  · -- the catch
    obtain ⟨a, B, sI, pins', σ', H', cls, d, rfl, J', nb, up, sky, na, os, ag, hany, C, dx, rfl, rfl, hgo⟩ := xx
    have J : Inv X pins σ' H' sI := J'.ofTry ok
    have sky' : Sky B (X.env :: X.outer) a (Zc (.ref C) (some dx)) X.env.locals s'.heap := by rw [← hs]; exact sky
    show wpAny (model X.prog X.w) X.A (noteFrame (.ref a) X.env) _ _ _
    refine Sky.land Zc.steady hfr hf sky' fun h3 fl3 up3 => ?_
    have J3 : Inv X pins σ' H' { s' with heap := h3 } := J.landed nb fl3.1 (up.trans up3) os ag
    obtain ⟨oe3, vs3, he3, hz3, hd3⟩ := fl3.there
    have notFr : ∀ {h : Heap} {o : Obj} {vs : Array Value}, h.FunFrames B (X.env :: X.outer) → h.get? a = some o → o.data = .fields vs → a ∉ frs (X.env :: X.outer) := fun {h o vs} ff e dd hm => by
      obtain ⟨_, o', e', hnf⟩ := ff.mem hm
      rw [e] at e'; cases e'
      exact hnf _ dd
    have nfr := notFr fl3.2.2.1 he3 hd3
    have nfs : a ∉ frs X.stack := by rw [hs]; exact nfr
    have nL : a ≠ X.env.locals := fun z => nfr (List.mem_filterMap.mpr ⟨X.env, List.mem_cons_self, by rw [hf, z]⟩)
    have nF : a ∉ X.fs := fun hm => by
      obtain ⟨e, he, q⟩ := List.mem_filterMap.mp hm
      exact nfr (List.mem_filterMap.mpr ⟨e, List.mem_cons_of_mem _ he, q⟩)
    have nI : sI.heap.get? a = none := by
      cases e : sI.heap.get? a with
      | none => rfl
      | some o =>
        have z := nb a o e nfs
        rw [fl3.2.1] at z
        cases z
    have n0 : X.s_0.heap.get? a = none := by
      cases e : X.s_0.heap.get? a with
      | none => rfl
      | some o =>
        obtain ⟨o', q⟩ := J.base.there a o e (by rw [hex]; exact fun z => nomatch z)
        rw [nI] at q
        cases q
    have nP : ∀ p ∈ X.pn ++ pins, p.1 ≠ a := fun p hp z => by
      have q := (J.pin p hp).1
      rw [z, nI] at q
      cases q
    have S3 := J3.suite he3 hd3 na nL nF
    refine wpAny_handleBy_cons (codeAny_handlers_test ?_) (by intro q; cases q)
    have ld : ∀ {x : Str} {c : Value} {q : Pos} {Q : Value → Shared → Prop} {E : Value → Shared → Prop}, Names X x c → Q c { s' with heap := h3 } → wpAny (model X.prog X.w) (X.A.mark (some (.ref a))) (eval (.Name x q) X.env) Q E { s' with heap := h3 } := fun {x c q Q E} hc q => by
      obtain ⟨hg, hdbg, hm | ⟨hm, hv, hnn⟩⟩ := hc
      · exact ld_glob (X := X.suite a ((a, oe3) :: (X.pn ++ pins))) S3 hg hm q hdbg
      · exact ld_blt (X := X.suite a ((a, oe3) :: (X.pn ++ pins))) S3 hg hm hv q hnn hdbg
    refine wpAny_Tuple_spliced ?_
    show wpAny _ _ (spliced ((false, eval (.Name x1 p1) X.env) :: (false, eval (.Name x2 p2) X.env) :: (false, eval (.Name x3 p3) X.env) :: [])) _ _ _
    refine Calls.spliced_cons (ld hc1 (Calls.spliced_cons (ld hc2 (Calls.spliced_cons (ld hc3 (Calls.spliced_nil ⟨by rw [sizeLine_eq]; show 3 ≤ 16777216; decide, ?_⟩))))))
    have kp : ∀ b o, h3.get? b = some o → (h3.push { cls := .type "tuple", data := .seq [Value.ref c1, .ref c2, .ref c3].toArray }).get? b = some o := fun b o e => Heap.get?_push_of_some _ e
    have fl3' := flying_keeps fl3 kp
    have he3' := kp _ _ he3
    have LT : PySem.W.Looks (model X.prog X.w) (h3.push { cls := .type "tuple", data := .seq [Value.ref c1, .ref c2, .ref c3].toArray }) (typeOf (.ref a)) (.ref C) := fun A Q E s k q => wpAny_typeOf_ref (k _ _ he3') (by rw [hz3.1]; exact q)
    have LM := PySem.W.exm_tup3 (M := model X.prog X.w) (J3.kIn.keeps kp) LT (Heap.get?_push_size h3 rfl) hany
    refine LM.here ?_
    show codeAny _ _ (.handlers (.ref a) [.ExceptHandler none (some n) (b₀ :: suite) pos'] X.env) _ _
    refine codeAny_handlers_suite_as ?_
    have up4 : s'.heap.UpToSlots (h3.push { cls := .type "tuple", data := .seq [Value.ref c1, .ref c2, .ref c3].toArray }) := up3.trans (Heap.UpToSlots.of_keeps kp)
    refine HandSPX.lands_againZ (s := ⟨h3.push { cls := .type "tuple", data := .seq [Value.ref c1, .ref c2, .ref c3].toArray }, s'.gens, s'.drawn, s'.toks, s'.os⟩) fl3' fun h4 fl4 up5 => ?_
    have J4 : Inv X pins σ' H' { s' with heap := h4 } := J.landed nb fl4.1 ((up.trans up4).trans up5) os ag
    obtain ⟨oe4, vs4, he4, hz4, hd4⟩ := fl4.there
    have S4 := J4.suite he4 hd4 na nL nF
    refine store_ok (X := X.suite a ((a, oe4) :: (X.pn ++ pins))) (v := .ref a) S4 hN hi hloc rfl (fun s5 S5 => ?_) (.inr hln)
    refine wpAny_mono ((hsu a oe4 (X.pn ++ pins)).run [] s5 _ H' _ S5 (hgo a na)) (fun f s6 hsp => ?_) (fun _ _ z => False.elim z)
    cases f with
    | next =>
      obtain ⟨σ6, H6, S6, n6, q6⟩ := hsp
      have J6 : Inv X pins σ6 H6 s6 := S6.unsuite ok
      obtain ⟨ha6, _, _, _, _⟩ := S6.pin (a, oe4) (List.mem_append_left _ List.mem_cons_self)
      have K6 : Inv X pins σ6 (upd H6 a (exv a C dx)) s6 := track J6 n6 nL (fun x c e z => by
        obtain ⟨v, o, ho, hd⟩ := J6.cell x c e
        rw [z, ha6] at ho
        cases ho
        rw [hd4] at hd
        cases hd) nP n0 (exv_ok ha6 hz4.1 hz4.2 hd4)
      show wpAny (model X.prog X.w) X.A (do bindName X.env n .none; unbindBehindTheSuite X.env n pos') _ X.xe s6
      exact gone_ok K6 hN hi hln fun s7 J7 => ⟨_, _, J7, q6⟩
    | brk =>
      obtain ⟨_, _, _, q6⟩ := hsp
      exact q6.elim
    | cont =>
      obtain ⟨_, _, _, q6⟩ := hsp
      exact q6.elim
    | ret u =>
      obtain ⟨_, _, _, _, _, q6⟩ := hsp
      exact q6.elim
  · cases f with
    | next =>
      obtain ⟨σ', H', J', q⟩ := hsp
      exact wpAny_execs_nil ⟨σ', H', J'.ofTry ok, q⟩
    | brk =>
      obtain ⟨σ', H', J', q⟩ := hsp
      exact ⟨σ', H', J'.ofTry ok, q⟩
    | cont =>
      obtain ⟨σ', H', J', q⟩ := hsp
      exact ⟨σ', H', J'.ofTry ok, q⟩
    | ret u =>
      obtain ⟨v, σ', H', J', r, q⟩ := hsp
      exact ⟨v, σ', H', J'.ofTry ok, r, q⟩
end

/-! ### a kept exception: its field, isinstance, is None -/
section
variable {X : Cx} {e : Expr} {te : TE} {pos : Pos} {F : Str} {B newId initId : String} {bmB : List Value}
/-- e.F -/
def tExF (P : Program) (K : PySem.W.Frag) (mg : Str → Option Value) (F : Str) (te : TE) : TE := fun σ H Q => te σ H fun x H1 => ∃ (a C dx fI : Addr) (B newId initId : String) (bmB : List Value) (v : V), x = .ref a ∧ ExT P K mg C fI F B newId initId bmB ∧ H1 a = some (exv a C dx) ∧ H1 dx = some (.xd [(F, v)]) ∧ Q v H1
theorem pe_exf (he : PE X e te) (hb : attributeBase e F X.env (eval e X.env) = eval e X.env := by rfl) : PE X (.Attribute e F pos) (tExF X.prog X.K X.mg F te) := by
  refine ⟨fun pins s σ H Q I h => ?_⟩
  refine attr_of hb (thn (he.run pins s σ H _ I h) fun u s1 hh => ?_)
  obtain ⟨x, H1, I1, rx, a, C, dx, fI, B, newId, initId, bmB, v, ex, T, ea, ed, q⟩ := hh
  subst ex
  obtain rfl : u = Value.ref a := rx
  obtain ⟨oe, vs, h1, h2, h3, h4⟩ := exv_at I1.hok ea
  have hx : ObjOk X.prog X.w H1 s1.heap dx (.xd [(F, v)]) := I1.hok dx _ ed
  obtain ⟨mA, hns, hr⟩ := hx
  obtain ⟨od, ho, hl⟩ := lookIn_ns hns
  have l : List.lookup F [(F, v)] = some v := by simp [List.lookup]
  obtain ⟨u, hu, ru⟩ := RelO.some_of (v := v) (o := mA F) (by rw [← l]; exact hr F)
  have J : PySem.W.InstAt s1.heap a oe C (some od) := ⟨h1, h2, by unfold PySem.W.notCls; rw [h4] <;> rfl, by rw [h3]; exact ho⟩
  exact HandSPX.exc_get I1.kIn J T.ga T.gg T.exC (PySem.W.findObj_own T.hdC T.noF rfl (by rw [hl, hu])) (handed_of ru) ⟨v, H1, I1.tok _, ru, q⟩
/-- isinstance(e, c), e a kept exception -/
def rIsX (P : Program) (K : PySem.W.Frag) (mg : Str → Option Value) : List V → Hp → VK → Prop := fun xs H Q => ∃ (a C dx fI : Addr) (F : Str) (B newId initId : String) (bmB : List Value) (c : V) (cv : Value) (b : Bool), xs = [.ref a, c] ∧ ExT P K mg C fI F B newId initId bmB ∧ H a = some (exv a C dx) ∧ (∃ fs, H dx = some (.xd fs)) ∧ ClsV c cv ∧ PySem.W.kitOne K (.ref C) cv = some b ∧ Q (.bl b) H
theorem call_isX : CallR X (.builtin "isinstance") (rIsX X.prog X.K X.mg) := by
  intro pins s σ H xs us Q I r h
  obtain ⟨a, C, dx, fI, F, B, newId, initId, bmB, c, cv, b, rfl, T, ea, ⟨fs, ed⟩, k, e, q⟩ := h
  obtain ⟨u1, u2, rfl, r1, r2⟩ := vals2 r
  cases (show u1 = Value.ref a from r1)
  have e2 := k.eq r2
  subst e2
  obtain ⟨oe, vs, h1, h2, h3, h4⟩ := exv_at I.hok ea
  obtain ⟨mA, hns, _⟩ := (show ObjOk X.prog X.w H s.heap dx (.xd fs) from I.hok dx _ ed)
  obtain ⟨od, ho, _⟩ := lookIn_ns hns
  have J : PySem.W.InstAt s.heap a oe C (some od) := ⟨h1, h2, by unfold PySem.W.notCls; rw [h4] <;> rfl, by rw [h3]; exact ho⟩
  obtain ⟨cd, hcd, _⟩ := PySem.W.any_some T.hdC
  exact PySem.W.kia_one (PySem.W.kitx_exc (by rw [hcd]; rfl) T.ga T.gg T.exC T.ca T.cn T.ct T.cm) I.kIn J e (fun z => nomatch z) fun tk => ⟨.bl b, H, I.tok tk, rfl, q⟩
end
end Rm
set_option Elab.async false
set_option linter.all false
set_option maxRecDepth 100000
set_option maxHeartbeats 4000000
/-! # Data: its type, the length of its text; calls by keywords alone; // by great numbers of any sign -/
namespace Rm
open PySem PySem.Spec PyProof.Rows L2 RmX
def tyN : PyData → String
  | .none => "NoneType" | .bool _ => "bool" | .int _ => "int" | .str _ => "str" | .list _ => "list" | .tuple _ => "tuple" | .dict _ => "dict"
theorem dpTy {K : PySem.W.Frag} {H : Hp} {x : V} {d : PyData} (h : Dp K H x d) : TyX K H x (.type (tyN d)) := by
  cases h with
  | non => exact .base .non
  | bl b => exact .base (.bl b)
  | int i => exact .base (.int i)
  | str x => exact .base (.str x)
  | lst h1 _ =>
    rcases h1 with (h1 | ⟨o, h1⟩) | ⟨o, its, n, h1, h2, _⟩
    · exact .base (.lst h1)
    · exact .base (.frz h1)
    · exact .kList h1 h2
  | tup h1 _ =>
    rcases h1 with (h1 | ⟨o, h1⟩) | ⟨o, its, n, h1, h2, _⟩
    · exact .base (.tup h1)
    · exact .fTuple h1
    · exact .kTuple h1 h2
theorem dp_same {K : PySem.W.Frag} {H H' : Hp} (s : Same H H') : ∀ {d : PyData} {x : V}, Dp K H x d → Dp K H' x d := by
  have sl : ∀ {a : Addr} {xs : List V}, SqL K H a xs → SqL K H' a xs := fun h => s.seq h
  have st : ∀ {a : Addr} {xs : List V}, SqT K H a xs → SqT K H' a xs := fun {a xs} h => by
    rcases h with (h | ⟨o, h⟩) | h
    · exact .inl (.inl (s _ _ h))
    · exact .inl (.inr ⟨o, s _ _ h⟩)
    · exact .inr h
  intro d x h
  exact Dp.rec (motive_1 := fun x d _ => Dp K H' x d) (motive_2 := fun xs ds _ => DpAll K H' xs ds) .non .bl .int .str (fun h1 _ ih => .lst (sl h1) ih) (fun h1 _ ih => .tup (st h1) ih) .nil (fun _ _ i1 i2 => .cons i1 i2) h
/-! ### how long a text is -/
mutual
def cst : PyData → Nat
  | .none => 4
  | .bool _ => 5
  | .int _ => 2000
  | .str x => (reprText x).length
  | .list xs => cstAll xs + 4
  | .tuple xs => cstAll xs + 4
  | .dict _ => 0
def cstAll : List PyData → Nat
  | [] => 0
  | x :: xs => cst x + 2 + cstAll xs
end
theorem listText_le (ts : List Str) : (listText ts).length ≤ piled ts + 4 := by
  cases ts with
  | nil => decide +kernel
  | cons t r =>
    have h := textFrom_length_pos r 1 (("[" : Str) ++ (if (0 : Nat) > 0 then ", " else "" : String) ++ t) (Nat.succ_pos 0)
    have e : ((("[" : Str) ++ (if (0 : Nat) > 0 then ", " else "" : String) ++ t)).length = 1 + t.length := by
      rw [strLen_append, strLen_append]; rfl
    have hX : (listText (t :: r)).length = (textFrom 0 "[" (t :: r)).length + 1 := by
      show (textFrom 0 "[" (t :: r) ++ "]").length = _
      rw [strLen_append]; rfl
    have hY : (textFrom 0 "[" (t :: r)).length = (textFrom 1 (("[" : Str) ++ (if (0 : Nat) > 0 then ", " else "" : String) ++ t) r).length := rfl
    rw [hX, hY, h, e, piled_cons]; omega
mutual
theorem shown_le : ∀ d : PyData, d.showable = true → d.hasDict = false → d.shown.length ≤ cst d
  | .none, _, _ => by simp only [PyData.shown, cst]; decide +kernel
  | .bool b, _, _ => by cases b <;> (simp only [PyData.shown, cst]; decide +kernel)
  | .int i, h, _ => by
    have hi : i.natAbs.log2 < 1920 := by simpa [PyData.showable] using h
    have e := int_text_length_le (k := 1920) (by decide) hi
    simp only [PyData.shown, cst]
    rw [PySem.ofString_length]; omega
  | .str x, _, _ => by simp only [PyData.shown, cst]; exact Nat.le_refl _
  | .list xs, h, h2 => by
    have ih := shownAll_le xs (by simpa [PyData.showable] using h) (by simpa [PyData.hasDict] using h2)
    have := listText_le (PyData.shownAll xs)
    simp only [PyData.shown, cst]; omega
  | .tuple xs, h, h2 => by
    have ih := shownAll_le xs (by simpa [PyData.showable] using h) (by simpa [PyData.hasDict] using h2)
    have := fmt_text (PyData.shownAll xs)
    simp only [PyData.shown, cst]; omega
  | .dict _, _, h => by simp [PyData.hasDict] at h
theorem shownAll_le : ∀ xs : List PyData, PyData.showableAll xs = true → PyData.hasDictAll xs = false → piled (PyData.shownAll xs) ≤ cstAll xs
  | [], _, _ => Nat.zero_le _
  | x :: xs, h, h2 => by
    have h' : x.showable = true ∧ PyData.showableAll xs = true := by simpa [PyData.showableAll] using h
    have h2' : x.hasDict = false ∧ PyData.hasDictAll xs = false := by simpa [PyData.hasDictAll] using h2
    have a := shown_le x h'.1 h2'.1
    have b := shownAll_le xs h'.2 h2'.2
    simp only [PyData.shownAll, piled_cons, cstAll]; omega
end
theorem fit_of {d : PyData} (h1 : d.showable = true) (h2 : d.hasDict = false) (h3 : d.depth ≤ 20) (h4 : cst d ≤ 1000000) : Fit d := ⟨h1, h2, h3, Nat.le_trans (shown_le d h1 h2) h4⟩
/-! ### // -/
section
variable {X : Cx}
theorem op_fdivZ : OpR X (binaryOp .FloorDiv) (rI (fun _ j => j ≠ 0 ∧ j.natAbs.log2 < 9000) fun i j => .int (i.fdiv j)) := opI fun i j _ _ _ _ _ hc q => floordiv_int hc.1 q (.inl (PyProof.noPylong_of_log2 hc.2))
end
/-! ### f(k = v, ..) -/
section
variable {X : Cx} {k : Nat} {f : Addr} {fd : FuncData} {ps ks : List Str} {sp : Sp} {E : L2.St → XK} {x : Str} {p pos : Pos} {kws : List Keyword} {tk : TA} {g : List Value → List Value → List Value} {gV : List V → List V → List V}
def tCallKG (sp : Sp) (gV : List V → List V → List V) (E : L2.St → XK) (tk : TA) : TE := fun σ H Q => tk σ H fun zs H2 => sp (gV [] zs) H2 Q (E σ)
theorem pe_callKG (F : FnG X.prog X.w X.K X.mg X.base k f fd ps sp) (hr : Room k X.A) (hgd : X.A.guards = some []) (hg : Gl X x) (hm : X.mg x = some (.ref f)) (hk : PySem.W.keepIn X.K (.ref f) = true) (hb : KBinds X.K fd ps ks g gV) (hx : ∀ σ, PassesAt (L2.CX X.prog X.w) X σ (E σ))
    (hkw : PK X kws tk) (hall : (backToKw pos (keywordEach kws X.env)).all (·.1.isSome) = true := by rfl) (hks : (backToKw pos (keywordEach kws X.env)).filterMap (·.1) = ks := by rfl)
    (hdb : (x == ("__debug__" : Str)) = false := by decide) (hpl : ((backTo pos (starEach [] X.env)).any (·.1) || (backToKw pos (keywordEach kws X.env)).any (·.1.isNone)) = false := by rfl) :
    PE X (.Call (.Name x p) [] kws pos) (tCallKG sp gV E tk) := by
  refine ⟨fun pins s σ H Q I h => ?_⟩
  refine wpAny_Call_Name_kw (ld_glob I hg hm ?_ hdb)
  refine PySem.W.callWith_KW0 (h₀ := X.base) I.ok.mod.kin hk hall ?_ hpl
  refine thn (hkw.run pos pins s σ H _ I h) fun ws s2 ⟨zs, H2, I2, rz, q2⟩ => ⟨I2.kIn, ?_⟩
  rw [hks]
  have r2 := hb.rel (vs := []) (us := []) .nil rz
  have hl : (g [] ws).length = ps.length := by rw [← r2.length]; exact F.len _ _ _ _ q2
  refine wpAny_call (codeAny_mono (F.run X.A X.stack s2 H2 ⟨[], ks.zip ws⟩ (g [] ws) (gV [] zs) Q (E σ) hr hgd I2.env0 (hb.to s2 [] ws I2.kIn hl) r2 q2) fun r s' hq => ?_)
  cases r with
  | error e => exact hx σ pins H2 s2 e s' I2 hq
  | ok fl =>
    cases fl with
    | ret u => exact I2.after hq
    | next => exact False.elim hq
    | brk => exact False.elim hq
    | cont => exact False.elim hq
end
end Rm
/-! # Fractions in lowest terms, in plain Lean -/
namespace Mth
/-- the sign and the common divisor by which above and below are divided -/
def shr (a b : Int) : Int := if b < 0 then -((Nat.gcd a.natAbs b.natAbs : Nat) : Int) else ((Nat.gcd a.natAbs b.natAbs : Nat) : Int)
def nrm (a b : Int) : Int × Int := (a.fdiv (shr a b), b.fdiv (shr a b))
def isNum (n d : Int) : Prop := 1 ≤ d ∧ Nat.gcd n.natAbs d.natAbs = 1
theorem gcd_pos {a b : Int} (h : b ≠ 0) : 0 < Nat.gcd a.natAbs b.natAbs := Nat.gcd_pos_of_pos_right _ (by omega)
theorem shr_ne {a b : Int} (h : b ≠ 0) : shr a b ≠ 0 := by
  have := gcd_pos (a := a) h
  unfold shr
  split <;> omega
theorem shr_abs (a b : Int) : (shr a b).natAbs = Nat.gcd a.natAbs b.natAbs := by
  unfold shr
  split <;> omega
theorem shr_dvd_l (a b : Int) : shr a b ∣ a := by
  rw [← Int.natAbs_dvd_natAbs, shr_abs]
  exact Nat.gcd_dvd_left _ _
theorem shr_dvd_r (a b : Int) : shr a b ∣ b := by
  rw [← Int.natAbs_dvd_natAbs, shr_abs]
  exact Nat.gcd_dvd_right _ _
theorem fdiv_mul {a s : Int} (h : s ∣ a) : a.fdiv s * s = a := Int.fdiv_mul_cancel h
/-- nrm a b = (n, d): what is known -/
structure Nrm (a b n d : Int) : Prop where
  num : isNum n d
  cross : n * b = a * d
  la : n.natAbs ≤ a.natAbs
  lb : d.natAbs ≤ b.natAbs
theorem nrm_spec {a b : Int} (h : b ≠ 0) : Nrm a b (nrm a b).1 (nrm a b).2 := by
  have e1 : a.fdiv (shr a b) * shr a b = a := fdiv_mul (shr_dvd_l a b)
  have e2 : b.fdiv (shr a b) * shr a b = b := fdiv_mul (shr_dvd_r a b)
  have hs := shr_ne (a := a) h
  have hg := gcd_pos (a := a) h
  have habs := shr_abs a b
  show Nrm a b (a.fdiv (shr a b)) (b.fdiv (shr a b))
  generalize hn : a.fdiv (shr a b) = n at *
  generalize hd : b.fdiv (shr a b) = d at *
  have a1 : n.natAbs * Nat.gcd a.natAbs b.natAbs = a.natAbs := by rw [← habs, ← Int.natAbs_mul, e1]
  have a2 : d.natAbs * Nat.gcd a.natAbs b.natAbs = b.natAbs := by rw [← habs, ← Int.natAbs_mul, e2]
  refine ⟨⟨?_, ?_⟩, ?_, ?_, ?_⟩
  · -- the sign
    have hd0 : d ≠ 0 := fun z => by rw [z, Int.zero_mul] at e2; exact h e2.symm
    by_cases hb : b < 0
    · have es : shr a b < 0 := by unfold shr; rw [if_pos hb]; omega
      by_cases hd' : d < 0
      · exact absurd (Int.mul_pos_of_neg_of_neg hd' es) (by omega)
      · omega
    · have es : 0 < shr a b := by unfold shr; rw [if_neg hb]; omega
      by_cases hd' : d < 0
      · exact absurd (Int.mul_neg_of_neg_of_pos hd' es) (by omega)
      · omega
  · have key : Nat.gcd (n.natAbs * Nat.gcd a.natAbs b.natAbs) (d.natAbs * Nat.gcd a.natAbs b.natAbs) = Nat.gcd n.natAbs d.natAbs * Nat.gcd a.natAbs b.natAbs := Nat.gcd_mul_right _ _ _
    rw [a1, a2] at key
    have k2 : Nat.gcd n.natAbs d.natAbs * Nat.gcd a.natAbs b.natAbs = 1 * Nat.gcd a.natAbs b.natAbs := by rw [Nat.one_mul]; exact key.symm
    exact Nat.eq_of_mul_eq_mul_right hg k2
  · have : n * (d * shr a b) = n * shr a b * d := by rw [Int.mul_comm d, ← Int.mul_assoc]
    rw [e2, e1] at this
    exact this
  · have : n.natAbs * 1 ≤ n.natAbs * Nat.gcd a.natAbs b.natAbs := Nat.mul_le_mul_left _ hg
    omega
  · have : d.natAbs * 1 ≤ d.natAbs * Nat.gcd a.natAbs b.natAbs := Nat.mul_le_mul_left _ hg
    omega
theorem num_unique {n d n' d' : Int} (h : isNum n d) (h' : isNum n' d') (e : n * d' = n' * d) : n = n' ∧ d = d' := by
  obtain ⟨h1, h2⟩ := h
  obtain ⟨h1', h2'⟩ := h'
  have ea : n.natAbs * d'.natAbs = n'.natAbs * d.natAbs := by rw [← Int.natAbs_mul, ← Int.natAbs_mul, e]
  have c : Nat.Coprime d.natAbs n.natAbs := Nat.Coprime.symm h2
  have c' : Nat.Coprime d'.natAbs n'.natAbs := Nat.Coprime.symm h2'
  have d1 : d.natAbs ∣ d'.natAbs := c.dvd_of_dvd_mul_left ⟨n'.natAbs, by rw [ea, Nat.mul_comm]⟩
  have d2 : d'.natAbs ∣ d.natAbs := c'.dvd_of_dvd_mul_left ⟨n.natAbs, by rw [← ea, Nat.mul_comm]⟩
  have dd : d.natAbs = d'.natAbs := Nat.dvd_antisymm d1 d2
  have dd' : d = d' := by omega
  subst dd'
  exact ⟨Int.eq_of_mul_eq_mul_right (by omega) e, rfl⟩
/-- the number that a fraction with the same worth has -/
theorem nrm_is {a b n d : Int} (hb : b ≠ 0) (h : isNum n d) (e : n * b = a * d) : nrm a b = (n, d) := by
  have s := nrm_spec (a := a) hb
  have k : (nrm a b).1 * d = n * (nrm a b).2 := by
    have e1 : (nrm a b).1 * b = a * (nrm a b).2 := s.cross
    have : (nrm a b).1 * d * b = n * (nrm a b).2 * b := by
      calc (nrm a b).1 * d * b = (nrm a b).1 * b * d := by rw [Int.mul_assoc, Int.mul_comm d b, ← Int.mul_assoc]
        _ = a * (nrm a b).2 * d := by rw [e1]
        _ = a * d * (nrm a b).2 := by rw [Int.mul_assoc, Int.mul_comm (nrm a b).2 d, ← Int.mul_assoc]
        _ = n * b * (nrm a b).2 := by rw [e]
        _ = n * (nrm a b).2 * b := by rw [Int.mul_assoc, Int.mul_comm b, ← Int.mul_assoc]
    exact Int.eq_of_mul_eq_mul_right hb this
  obtain ⟨e1, e2⟩ := num_unique s.num h k
  exact Prod.ext e1 e2
end Mth
set_option linter.all false
/-! # Measures and multiples of fractions in lowest terms: no greater measure, no less multiple -/
namespace Mth
theorem frac_low {m n : Nat} (hm : 0 < m) : ∃ c s t : Nat, 0 < c ∧ m = s * c ∧ n = t * c ∧ Nat.Coprime s t := by
  refine ⟨Nat.gcd m n, m / Nat.gcd m n, n / Nat.gcd m n, Nat.gcd_pos_of_pos_left _ hm, ?_, ?_, ?_⟩
  · exact (Nat.div_mul_cancel (Nat.gcd_dvd_left m n)).symm
  · exact (Nat.div_mul_cancel (Nat.gcd_dvd_right m n)).symm
  · exact Nat.coprime_div_gcd_div_gcd (Nat.gcd_pos_of_pos_left _ hm)
/-- g the greatest divisor of all above, l the least multiple of all below: the quotients have no divisor k > 1 in common -/
theorem meas_one {k g l : Nat} (ps : List (Nat × Nat)) (hg : 0 < g) (hl : 0 < l) (hk : 0 < k) (low : ∀ p ∈ ps, Nat.Coprime p.1 p.2)
    (gg : ∀ r, (∀ p ∈ ps, r ∣ p.1) → r ∣ g) (ll : ∀ r, (∀ p ∈ ps, p.2 ∣ r) → l ∣ r) (q : ∀ p ∈ ps, ∃ n, p.1 * l = n * (k * g) * p.2) : k = 1 := by
  obtain ⟨c, s, t, c0, es, et, co⟩ := frac_low (m := k * g) (n := l) (Nat.mul_pos hk hg)
  have key : ∀ p ∈ ps, ∃ n, p.1 * t = n * s * p.2 := by
    intro p hp
    obtain ⟨n, e⟩ := q p hp
    refine ⟨n, Nat.eq_of_mul_eq_mul_right c0 ?_⟩
    rw [es, et] at e
    calc p.1 * t * c = p.1 * (t * c) := Nat.mul_assoc _ _ _
      _ = n * (s * c) * p.2 := e
      _ = n * s * p.2 * c := by rw [← Nat.mul_assoc n s c, Nat.mul_right_comm]
  have d1 : s ∣ g := gg s fun p hp => by
    obtain ⟨n, e⟩ := key p hp
    have : s ∣ p.1 * t := ⟨n * p.2, by rw [e, Nat.mul_comm n s, Nat.mul_assoc]⟩
    exact co.dvd_of_dvd_mul_right this
  have d2 : l ∣ t := ll t fun p hp => by
    obtain ⟨n, e⟩ := key p hp
    have : p.2 ∣ p.1 * t := ⟨n * s, by rw [e, Nat.mul_comm]⟩
    exact ((low p hp).symm).dvd_of_dvd_mul_left this
  have t0 : 0 < t := by
    rcases Nat.eq_zero_or_pos t with z | z
    · rw [z, Nat.zero_mul] at et; omega
    · exact z
  have b1 : s ≤ g := Nat.le_of_dvd hg d1
  have b2 : l ≤ t := Nat.le_of_dvd t0 d2
  have e : k * g * t = s * l := by
    rw [es, et, Nat.mul_assoc, Nat.mul_comm c t]
  have h1 : k * g * t ≤ g * t := by
    rw [e]
    exact Nat.mul_le_mul b1 b2
  have h2 : k * (g * t) ≤ 1 * (g * t) := by rw [Nat.one_mul, ← Nat.mul_assoc]; exact h1
  have h3 := Nat.le_of_mul_le_mul_right h2 (Nat.mul_pos hg t0)
  omega
/-- l the least multiple of all above, g the greatest divisor of all below -/
theorem mult_one {k g l : Nat} (ps : List (Nat × Nat)) (hg : 0 < g) (hl : 0 < l) (hk : 0 < k) (low : ∀ p ∈ ps, Nat.Coprime p.1 p.2)
    (ll : ∀ r, (∀ p ∈ ps, p.1 ∣ r) → l ∣ r) (gg : ∀ r, (∀ p ∈ ps, r ∣ p.2) → r ∣ g) (q : ∀ p ∈ ps, ∃ n, l * p.2 = n * (k * g) * p.1) : k = 1 := by
  obtain ⟨c, s, t, c0, es, et, co⟩ := frac_low (m := l) (n := k * g) hl
  have key : ∀ p ∈ ps, ∃ n, s * p.2 = n * t * p.1 := by
    intro p hp
    obtain ⟨n, e⟩ := q p hp
    refine ⟨n, Nat.eq_of_mul_eq_mul_right c0 ?_⟩
    rw [es, et] at e
    calc s * p.2 * c = s * c * p.2 := Nat.mul_right_comm _ _ _
      _ = n * (t * c) * p.1 := e
      _ = n * t * p.1 * c := by rw [← Nat.mul_assoc n t c, Nat.mul_right_comm]
  have d1 : l ∣ s := ll s fun p hp => by
    obtain ⟨n, e⟩ := key p hp
    have : p.1 ∣ s * p.2 := ⟨n * t, by rw [e, Nat.mul_comm]⟩
    exact (low p hp).dvd_of_dvd_mul_right this
  have d2 : t ∣ g := gg t fun p hp => by
    obtain ⟨n, e⟩ := key p hp
    have : t ∣ s * p.2 := ⟨n * p.1, by rw [e, Nat.mul_comm n t, Nat.mul_assoc]⟩
    exact (co.symm).dvd_of_dvd_mul_left this
  have s0 : 0 < s := by
    rcases Nat.eq_zero_or_pos s with z | z
    · rw [z, Nat.zero_mul] at es; omega
    · exact z
  have b1 : l ≤ s := Nat.le_of_dvd s0 d1
  have b2 : t ≤ g := Nat.le_of_dvd hg d2
  have e : k * g * s = t * l := by
    rw [es, et, Nat.mul_assoc, Nat.mul_comm c s]
  have h1 : k * g * s ≤ g * s := by
    rw [e]
    exact Nat.mul_le_mul b2 b1
  have h2 : k * (g * s) ≤ 1 * (g * s) := by rw [Nat.one_mul, ← Nat.mul_assoc]; exact h1
  have h3 := Nat.le_of_mul_le_mul_right h2 (Nat.mul_pos hg s0)
  omega
end Mth
set_option linter.all false
/-! # The greatest measure and the least multiple, by what divides them -/
namespace Mth
abbrev NP := Nat × Nat
structure Low (p : NP) : Prop where
  a : 0 < p.1
  b : 0 < p.2
  co : Nat.Coprime p.1 p.2
def sw (p : NP) : NP := (p.2, p.1)
theorem Low.sw {p : NP} (h : Low p) : Low (sw p) := ⟨h.b, h.a, h.co.symm⟩
/-- m: above the greatest divisor of all above, below the least multiple of all below -/
structure IsM (ps : List NP) (m : NP) : Prop where
  g : ∀ r, r ∣ m.1 ↔ ∀ p ∈ ps, r ∣ p.1
  l : ∀ r, m.2 ∣ r ↔ ∀ p ∈ ps, p.2 ∣ r
theorem IsM.uniq {ps : List NP} {m n : NP} (h : IsM ps m) (k : IsM ps n) : m = n := by
  refine Prod.ext (Nat.dvd_antisymm ?_ ?_) (Nat.dvd_antisymm ?_ ?_)
  · exact (k.g _).mpr ((h.g _).mp (Nat.dvd_refl _))
  · exact (h.g _).mpr ((k.g _).mp (Nat.dvd_refl _))
  · exact (h.l _).mpr ((k.l _).mp (Nat.dvd_refl _))
  · exact (k.l _).mpr ((h.l _).mp (Nat.dvd_refl _))
theorem IsM.mem {ps qs : List NP} {m : NP} (h : IsM ps m) (e : ∀ p, p ∈ qs ↔ p ∈ ps) : IsM qs m :=
  ⟨fun r => (h.g r).trans ⟨fun k p hp => k p ((e p).mp hp), fun k p hp => k p ((e p).mpr hp)⟩, fun r => (h.l r).trans ⟨fun k p hp => k p ((e p).mp hp), fun k p hp => k p ((e p).mpr hp)⟩⟩
theorem fold_gcd {h : NP → Nat} {r : Nat} : ∀ (ps : List NP) (a : Nat), r ∣ ps.foldl (fun g p => Nat.gcd g (h p)) a ↔ r ∣ a ∧ ∀ p ∈ ps, r ∣ h p
  | [], a => by simp
  | p :: ps, a => by
    rw [List.foldl_cons, fold_gcd ps, Nat.dvd_gcd_iff]
    simp only [List.mem_cons, forall_eq_or_imp]
    exact and_assoc
theorem lcm_dvd_iff' {a b r : Nat} : Nat.lcm a b ∣ r ↔ a ∣ r ∧ b ∣ r := ⟨fun h => ⟨Nat.dvd_trans (Nat.dvd_lcm_left a b) h, Nat.dvd_trans (Nat.dvd_lcm_right a b) h⟩, fun h => Nat.lcm_dvd h.1 h.2⟩
theorem fold_lcm {h : NP → Nat} {r : Nat} : ∀ (ps : List NP) (a : Nat), ps.foldl (fun g p => Nat.lcm g (h p)) a ∣ r ↔ a ∣ r ∧ ∀ p ∈ ps, h p ∣ r
  | [], a => by simp
  | p :: ps, a => by
    rw [List.foldl_cons, fold_lcm ps, lcm_dvd_iff']
    simp only [List.mem_cons, forall_eq_or_imp]
    exact and_assoc
def meas (ps : List NP) : NP := match ps with
  | [] => (0, 0)
  | p :: _ => (ps.foldl (fun g q => Nat.gcd g q.1) p.1, ps.foldl (fun g q => Nat.lcm g q.2) p.2)
def mult (ps : List NP) : NP := match ps with
  | [] => (0, 0)
  | p :: _ => (ps.foldl (fun g q => Nat.lcm g q.1) p.1, ps.foldl (fun g q => Nat.gcd g q.2) p.2)
theorem meas_is {ps : List NP} (h : ps ≠ []) : IsM ps (meas ps) := by
  match ps, h with
  | p :: rest, _ =>
    refine ⟨fun r => ?_, fun r => ?_⟩
    · show r ∣ (p :: rest).foldl (fun g q => Nat.gcd g q.1) p.1 ↔ _
      rw [fold_gcd (h := fun q => q.1)]
      exact ⟨fun k => k.2, fun k => ⟨k p List.mem_cons_self, k⟩⟩
    · show (p :: rest).foldl (fun g q => Nat.lcm g q.2) p.2 ∣ r ↔ _
      rw [fold_lcm (h := fun q => q.2)]
      exact ⟨fun k => k.2, fun k => ⟨k p List.mem_cons_self, k⟩⟩
theorem mult_is {ps : List NP} (h : ps ≠ []) : IsM (ps.map sw) (sw (mult ps)) := by
  match ps, h with
  | p :: rest, _ =>
    refine ⟨fun r => ?_, fun r => ?_⟩
    · show r ∣ (p :: rest).foldl (fun g q => Nat.gcd g q.2) p.2 ↔ _
      rw [fold_gcd (h := fun q => q.2)]
      refine ⟨fun k q hq => ?_, fun k => ⟨k (sw p) (List.mem_map_of_mem List.mem_cons_self), fun q hq => k (sw q) (List.mem_map_of_mem hq)⟩⟩
      obtain ⟨q', h', rfl⟩ := List.mem_map.mp hq
      exact k.2 q' h'
    · show (p :: rest).foldl (fun g q => Nat.lcm g q.1) p.1 ∣ r ↔ _
      rw [fold_lcm (h := fun q => q.1)]
      refine ⟨fun k q hq => ?_, fun k => ⟨k (sw p) (List.mem_map_of_mem List.mem_cons_self), fun q hq => k (sw q) (List.mem_map_of_mem hq)⟩⟩
      obtain ⟨q', h', rfl⟩ := List.mem_map.mp hq
      exact k.2 q' h'
def prodB : List NP → Nat
  | [] => 1
  | p :: ps => p.2 * prodB ps
theorem prodB_pos : ∀ {ps : List NP}, (∀ p ∈ ps, Low p) → 0 < prodB ps
  | [], _ => Nat.one_pos
  | p :: ps, h => Nat.mul_pos (h p List.mem_cons_self).b (prodB_pos fun q hq => h q (List.mem_cons_of_mem _ hq))
theorem prodB_dvd : ∀ {ps : List NP} {p : NP}, p ∈ ps → p.2 ∣ prodB ps
  | q :: ps, p, h => by
    rcases List.mem_cons.mp h with e | e
    · subst e
      exact Nat.dvd_mul_right _ _
    · exact Nat.dvd_trans (prodB_dvd e) (Nat.dvd_mul_left _ _)
theorem prodB_lt {B : Nat} : ∀ {ps : List NP}, (∀ p ∈ ps, p.2 < 2 ^ B) → prodB ps ≤ 2 ^ (B * ps.length)
  | [], _ => Nat.le_refl _
  | p :: ps, h => by
    have a := h p List.mem_cons_self
    have b := prodB_lt (ps := ps) fun q hq => h q (List.mem_cons_of_mem _ hq)
    have c : 2 ^ (B * (p :: ps).length) = 2 ^ B * 2 ^ (B * ps.length) := by
      rw [← Nat.pow_add, List.length_cons, Nat.mul_succ, Nat.add_comm]
    rw [c]
    exact Nat.mul_le_mul (Nat.le_of_lt a) b
theorem IsM.low {ps : List NP} {m : NP} (h : IsM ps m) (ne : ps ≠ []) (lo : ∀ p ∈ ps, Low p) : Low m := by
  obtain ⟨p, hp⟩ : ∃ p, p ∈ ps := List.exists_mem_of_ne_nil _ ne
  have b0 : 0 < m.2 := by
    rcases Nat.eq_zero_or_pos m.2 with z | z
    · have := (h.l (prodB ps)).mpr fun q hq => prodB_dvd hq
      rw [z] at this
      have := Nat.eq_zero_of_zero_dvd this
      have := prodB_pos lo
      omega
    · exact z
  have a0 : 0 < m.1 := Nat.pos_of_dvd_of_pos ((h.g m.1).mp (Nat.dvd_refl _) p hp) (lo p hp).a
  refine ⟨a0, b0, ?_⟩
  obtain ⟨e, he⟩ : Nat.gcd m.1 m.2 ∣ m.2 := Nat.gcd_dvd_right _ _
  have d1 : Nat.gcd m.1 m.2 ∣ m.1 := Nat.gcd_dvd_left _ _
  generalize hd : Nat.gcd m.1 m.2 = d at he d1
  have k : m.2 ∣ e := (h.l e).mpr fun q hq => by
    have c1 : d ∣ q.1 := Nat.dvd_trans d1 ((h.g m.1).mp (Nat.dvd_refl _) q hq)
    have c2 : q.2 ∣ d * e := by rw [← he]; exact (h.l m.2).mp (Nat.dvd_refl _) q hq
    exact (Nat.Coprime.coprime_dvd_left c1 (lo q hq).co).symm.dvd_of_dvd_mul_left c2
  have e0 : 0 < e := by
    rcases Nat.eq_zero_or_pos e with z | z
    · rw [z, Nat.mul_zero] at he; omega
    · exact z
  have le := Nat.le_of_dvd e0 k
  rw [he] at le
  have d0 : 0 < d := Nat.pos_of_dvd_of_pos d1 a0
  show Nat.gcd m.1 m.2 = 1
  rw [hd]
  have : d * e ≤ 1 * e := by omega
  have := Nat.le_of_mul_le_mul_right this e0
  omega
theorem IsM.sz {ps : List NP} {m : NP} {B n : Nat} (h : IsM ps m) (ne : ps ≠ []) (lo : ∀ p ∈ ps, Low p) (sz : ∀ p ∈ ps, p.1 < 2 ^ B ∧ p.2 < 2 ^ B) (len : ps.length ≤ n) : m.1 < 2 ^ B ∧ m.2 ≤ 2 ^ (B * n) := by
  obtain ⟨p, hp⟩ : ∃ p, p ∈ ps := List.exists_mem_of_ne_nil _ ne
  refine ⟨Nat.lt_of_le_of_lt (Nat.le_of_dvd (lo p hp).a ((h.g m.1).mp (Nat.dvd_refl _) p hp)) (sz p hp).1, ?_⟩
  refine Nat.le_trans (Nat.le_of_dvd (prodB_pos lo) ((h.l _).mpr fun q hq => prodB_dvd hq)) ?_
  exact Nat.le_trans (prodB_lt fun q hq => (sz q hq).2) (Nat.pow_le_pow_right (by decide) (Nat.mul_le_mul_left _ len))
/-! ### p is an integer multiple of m -/
def Mul (p m : NP) : Prop := p.2 * m.1 ∣ p.1 * m.2
theorem mul_low {p m : NP} (hp : Low p) (hm : Low m) : Mul p m ↔ m.1 ∣ p.1 ∧ p.2 ∣ m.2 := by
  refine ⟨fun h => ⟨?_, ?_⟩, fun h => ?_⟩
  · exact hm.co.dvd_of_dvd_mul_right (Nat.dvd_trans (Nat.dvd_mul_left _ _) h)
  · exact hp.co.symm.dvd_of_dvd_mul_left (Nat.dvd_trans (Nat.dvd_mul_right _ _) h)
  · show p.2 * m.1 ∣ p.1 * m.2
    rw [Nat.mul_comm p.1]
    exact Nat.mul_dvd_mul h.2 h.1
def Eqv (x y : NP) : Prop := x.1 * y.2 = y.1 * x.2
theorem Eqv.symm {x y : NP} (h : Eqv x y) : Eqv y x := Eq.symm h
theorem mul_eqv {x y x' y' : NP} (a : 0 < x.2) (b : 0 < y.1) (e : Eqv x x') (f : Eqv y y') (h : Mul x y) : Mul x' y' := by
  obtain ⟨n, h⟩ := h
  refine ⟨n, Nat.eq_of_mul_eq_mul_right (Nat.mul_pos a b) ?_⟩
  unfold Eqv at e f
  calc x'.1 * y'.2 * (x.2 * y.1) = (x'.1 * x.2) * (y.1 * y'.2) := by ac_rfl
    _ = (x.1 * x'.2) * (y'.1 * y.2) := by rw [← e, f]
    _ = (x.1 * y.2) * (x'.2 * y'.1) := by ac_rfl
    _ = (x.2 * y.1 * n) * (x'.2 * y'.1) := by rw [h]
    _ = x'.2 * y'.1 * n * (x.2 * y.1) := by ac_rfl
theorem mul_anti {x y : NP} (hx : Low x) (hy : Low y) (h : Mul x y) (k : Mul y x) : x = y := by
  obtain ⟨a, b⟩ := (mul_low hx hy).mp h
  obtain ⟨c, d⟩ := (mul_low hy hx).mp k
  exact Prod.ext (Nat.dvd_antisymm c a) (Nat.dvd_antisymm b d)
def sc (al be : Nat) (p : NP) : NP := (al * p.1, be * p.2)
theorem mul_sc {al be : Nat} (ha : 0 < al) (hb : 0 < be) {p m : NP} : Mul (sc al be p) (sc al be m) ↔ Mul p m := by
  have e1 : be * p.2 * (al * m.1) = (al * be) * (p.2 * m.1) := by ac_rfl
  have e2 : al * p.1 * (be * m.2) = (al * be) * (p.1 * m.2) := by ac_rfl
  show be * p.2 * (al * m.1) ∣ al * p.1 * (be * m.2) ↔ _
  rw [e1, e2]
  exact Nat.mul_dvd_mul_iff_left (Nat.mul_pos ha hb)
def red (p : NP) : NP := (p.1 / Nat.gcd p.1 p.2, p.2 / Nat.gcd p.1 p.2)
theorem red_low {p : NP} (a : 0 < p.1) (b : 0 < p.2) : Low (red p) := by
  have g := Nat.gcd_pos_of_pos_left p.2 a
  exact ⟨Nat.div_pos (Nat.le_of_dvd a (Nat.gcd_dvd_left _ _)) g, Nat.div_pos (Nat.le_of_dvd b (Nat.gcd_dvd_right _ _)) g, Nat.coprime_div_gcd_div_gcd g⟩
theorem red_eqv (p : NP) : Eqv (red p) p := by
  show p.1 / Nat.gcd p.1 p.2 * p.2 = p.1 * (p.2 / Nat.gcd p.1 p.2)
  have h1 := Nat.div_mul_cancel (Nat.gcd_dvd_left p.1 p.2)
  have h2 := Nat.div_mul_cancel (Nat.gcd_dvd_right p.1 p.2)
  generalize p.1 / Nat.gcd p.1 p.2 = s at *
  generalize p.2 / Nat.gcd p.1 p.2 = t at *
  generalize Nat.gcd p.1 p.2 = g at *
  calc s * p.2 = s * (t * g) := by rw [h2]
    _ = (s * g) * t := by ac_rfl
    _ = p.1 * t := by rw [h1]
theorem red_of {p q : NP} (hq : Low q) (hp : 0 < p.2) (e : Eqv q p) (a : 0 < p.1) : red p = q := by
  have f : Eqv q (red p) := by
    have r := red_eqv p
    unfold Eqv at r e ⊢
    refine Nat.eq_of_mul_eq_mul_right hp ?_
    calc q.1 * (red p).2 * p.2 = (q.1 * p.2) * (red p).2 := by ac_rfl
      _ = (p.1 * q.2) * (red p).2 := by rw [e]
      _ = (p.1 * (red p).2) * q.2 := by ac_rfl
      _ = ((red p).1 * p.2) * q.2 := by rw [r]
      _ = (red p).1 * q.2 * p.2 := by ac_rfl
  have self : Mul q q := by
    show q.2 * q.1 ∣ q.1 * q.2
    rw [Nat.mul_comm]
    exact Nat.dvd_refl _
  exact mul_anti (red_low a hp) hq (mul_eqv hq.b hq.a f rfl self) (mul_eqv hq.b hq.a rfl f self)
theorem IsM.to {ps : List NP} {m : NP} (h : IsM ps m) (lm : Low m) (lo : ∀ p ∈ ps, Low p) {p : NP} (hp : p ∈ ps) : Mul p m :=
  (mul_low (lo p hp) lm).mpr ⟨(h.g _).mp (Nat.dvd_refl _) p hp, (h.l _).mp (Nat.dvd_refl _) p hp⟩
theorem IsM.best {ps : List NP} {m n : NP} (h : IsM ps m) (lm : Low m) (ln : Low n) (lo : ∀ p ∈ ps, Low p) (k : ∀ p ∈ ps, Mul p n) : Mul m n :=
  (mul_low lm ln).mpr ⟨(h.g _).mpr fun p hp => ((mul_low (lo p hp) ln).mp (k p hp)).1, (h.l _).mpr fun p hp => ((mul_low (lo p hp) ln).mp (k p hp)).2⟩
/-- scaled numbers have the scaled measure -/
theorem scal {ps : List NP} {al be : Nat} {m n : NP} (ha : 0 < al) (hb : 0 < be) (ne : ps ≠ []) (lo : ∀ p ∈ ps, Low p) (h : IsM ps m) (k : IsM (ps.map fun p => red (sc al be p)) n) : n = red (sc al be m) := by
  have lm := h.low ne lo
  have lo' : ∀ q ∈ ps.map (fun p => red (sc al be p)), Low q := fun q hq => by
    obtain ⟨p, hp, rfl⟩ := List.mem_map.mp hq
    exact red_low (Nat.mul_pos ha (lo p hp).a) (Nat.mul_pos hb (lo p hp).b)
  have ln := k.low (by simpa using ne) lo'
  have lr : Low (red (sc al be m)) := red_low (Nat.mul_pos ha lm.a) (Nat.mul_pos hb lm.b)
  refine mul_anti ln lr ?_ ?_
  · refine k.best ln lr lo' fun q hq => ?_
    obtain ⟨p, hp, rfl⟩ := List.mem_map.mp hq
    exact mul_eqv (Nat.mul_pos hb (lo p hp).b) (Nat.mul_pos ha lm.a) (red_eqv _).symm (red_eqv _).symm ((mul_sc ha hb).mpr (h.to lm lo hp))
  · have lx : Low (red (sc be al n)) := red_low (Nat.mul_pos hb ln.a) (Nat.mul_pos ha ln.b)
    have back : Eqv n (sc al be (red (sc be al n))) := by
      have r := red_eqv (sc be al n)
      unfold Eqv at r ⊢
      show n.1 * (be * (red (sc be al n)).2) = al * (red (sc be al n)).1 * n.2
      have r' : (red (sc be al n)).1 * (al * n.2) = be * n.1 * (red (sc be al n)).2 := r
      calc n.1 * (be * (red (sc be al n)).2) = be * n.1 * (red (sc be al n)).2 := by ac_rfl
        _ = (red (sc be al n)).1 * (al * n.2) := r'.symm
        _ = al * (red (sc be al n)).1 * n.2 := by ac_rfl
    have b : Mul m (red (sc be al n)) := h.best lm lx lo fun p hp => (mul_sc ha hb).mp (mul_eqv (red_low (Nat.mul_pos ha (lo p hp).a) (Nat.mul_pos hb (lo p hp).b)).b ln.a (red_eqv _) back (k.to ln lo' (List.mem_map_of_mem (f := fun p => red (sc al be p)) hp)))
    exact mul_eqv (Nat.mul_pos hb lm.b) (Nat.mul_pos ha lx.a) (red_eqv _).symm back.symm ((mul_sc ha hb).mpr b)
/-! ### the quotients -/
def quo (m p : NP) : Nat := p.1 / m.1 * (m.2 / p.2)
theorem quo_red {p m : NP} (hp : Low p) (hm : Low m) (h : Mul p m) : red (p.1 * m.2, p.2 * m.1) = (quo m p, 1) ∧ 0 < quo m p ∧ p.1 * m.2 = quo m p * m.1 * p.2 := by
  obtain ⟨⟨s, d1⟩, ⟨t, d2⟩⟩ := (mul_low hp hm).mp h
  have e1 : p.1 / m.1 = s := by rw [d1]; exact Nat.mul_div_cancel_left _ hm.a
  have e2 : m.2 / p.2 = t := by rw [d2]; exact Nat.mul_div_cancel_left _ hp.b
  have q : quo m p = s * t := by unfold quo; rw [e1, e2]
  have s0 : 0 < s := by
    rcases Nat.eq_zero_or_pos s with z | z
    · have := hp.a; rw [d1, z, Nat.mul_zero] at this; omega
    · exact z
  have t0 : 0 < t := by
    rcases Nat.eq_zero_or_pos t with z | z
    · have := hm.b; rw [d2, z, Nat.mul_zero] at this; omega
    · exact z
  have key : p.1 * m.2 = quo m p * m.1 * p.2 := by
    rw [q]
    calc p.1 * m.2 = (m.1 * s) * (p.2 * t) := by rw [← d1, ← d2]
      _ = s * t * m.1 * p.2 := by ac_rfl
  refine ⟨red_of ⟨by rw [q]; exact Nat.mul_pos s0 t0, Nat.one_pos, Nat.gcd_one_right _⟩ (Nat.mul_pos hp.b hm.a) ?_ (Nat.mul_pos hp.a hm.b), by rw [q]; exact Nat.mul_pos s0 t0, key⟩
  show quo m p * (p.2 * m.1) = p.1 * m.2 * 1
  rw [key]
  ac_rfl
theorem fold_gcd' {h : NP → Nat} {r : Nat} : ∀ (ps : List NP) (a : Nat), r ∣ ps.foldl (fun g p => Nat.gcd (h p) g) a ↔ r ∣ a ∧ ∀ p ∈ ps, r ∣ h p
  | [], a => by simp
  | p :: ps, a => by
    rw [List.foldl_cons, fold_gcd' ps, Nat.dvd_gcd_iff]
    simp only [List.mem_cons, forall_eq_or_imp]
    constructor
    · rintro ⟨⟨x, y⟩, z⟩; exact ⟨y, x, z⟩
    · rintro ⟨y, x, z⟩; exact ⟨⟨x, y⟩, z⟩
theorem quo_one {ps : List NP} {m : NP} (ne : ps ≠ []) (lo : ∀ p ∈ ps, Low p) (h : IsM ps m) : ps.foldl (fun g p => Nat.gcd (quo m p) g) 0 = 1 := by
  have lm := h.low ne lo
  obtain ⟨p0, hp0⟩ : ∃ p, p ∈ ps := List.exists_mem_of_ne_nil _ ne
  have dv := (fold_gcd' (h := quo m) (r := ps.foldl (fun g p => Nat.gcd (quo m p) g) 0) ps 0).mp (Nat.dvd_refl _)
  generalize hk : ps.foldl (fun g p => Nat.gcd (quo m p) g) 0 = k at dv
  have k0 : 0 < k := Nat.pos_of_dvd_of_pos (dv.2 p0 hp0) (quo_red (lo p0 hp0) lm (h.to lm lo hp0)).2.1
  refine meas_one ps lm.a lm.b k0 (fun p hp => (lo p hp).co) (fun r hr => (h.g r).mpr hr) (fun r hr => (h.l r).mpr hr) fun p hp => ?_
  obtain ⟨_, _, key⟩ := quo_red (lo p hp) lm (h.to lm lo hp)
  obtain ⟨n, hn⟩ := dv.2 p hp
  refine ⟨n, ?_⟩
  rw [key, hn]
  ac_rfl
theorem red_sw (p : NP) : sw (red p) = red (sw p) := by
  show (p.2 / Nat.gcd p.1 p.2, p.1 / Nat.gcd p.1 p.2) = (p.2 / Nat.gcd p.2 p.1, p.1 / Nat.gcd p.2 p.1)
  rw [Nat.gcd_comm]
/-! ### nrm of naturals -/
theorem nrm_nat {a b : Nat} (ha : 0 < a) (hb : 0 < b) : nrm (a : Int) (b : Int) = (((red (a, b)).1 : Int), ((red (a, b)).2 : Int)) := by
  have l := red_low (p := (a, b)) ha hb
  have e := red_eqv (a, b)
  unfold Eqv at e
  generalize red (a, b) = q at l e ⊢
  refine nrm_is (by omega) ⟨by have := l.b; omega, by rw [Int.natAbs_natCast, Int.natAbs_natCast]; exact l.co⟩ ?_
  rw [← Int.natCast_mul, ← Int.natCast_mul, e]
end Mth
set_option linter.all false
namespace Mth
theorem sw_sw (p : NP) : sw (sw p) = p := rfl
theorem map_sw_mem {ps qs : List NP} (e : ∀ p, p ∈ qs ↔ p ∈ ps) (p : NP) : p ∈ qs.map sw ↔ p ∈ ps.map sw := by
  constructor
  · intro h
    obtain ⟨q, hq, rfl⟩ := List.mem_map.mp h
    exact List.mem_map_of_mem ((e q).mp hq)
  · intro h
    obtain ⟨q, hq, rfl⟩ := List.mem_map.mp h
    exact List.mem_map_of_mem ((e q).mpr hq)
theorem map_ne {ps : List NP} {f : NP → NP} (h : ps ≠ []) : ps.map f ≠ [] := by simpa using h
theorem map_low {ps : List NP} (lo : ∀ p ∈ ps, Low p) : ∀ p ∈ ps.map sw, Low p := fun p hp => by
  obtain ⟨q, hq, rfl⟩ := List.mem_map.mp hp
  exact (lo q hq).sw
theorem ne_of_mem {ps qs : List NP} (e : ∀ p, p ∈ qs ↔ p ∈ ps) (ne : ps ≠ []) : qs ≠ [] := fun z => by
  obtain ⟨p, hp⟩ := List.exists_mem_of_ne_nil _ ne
  have := (e p).mpr hp
  rw [z] at this
  cases this
theorem meas_mem {ps qs : List NP} (e : ∀ p, p ∈ qs ↔ p ∈ ps) (ne : ps ≠ []) : meas qs = meas ps := (meas_is (ne_of_mem e ne)).uniq ((meas_is ne).mem e)
theorem mult_mem {ps qs : List NP} (e : ∀ p, p ∈ qs ↔ p ∈ ps) (ne : ps ≠ []) : mult qs = mult ps := by
  have := (mult_is (ne_of_mem e ne)).uniq ((mult_is ne).mem (map_sw_mem e))
  have h := congrArg sw this
  exact h
theorem meas_low {ps : List NP} (ne : ps ≠ []) (lo : ∀ p ∈ ps, Low p) : Low (meas ps) := (meas_is ne).low ne lo
theorem mult_low {ps : List NP} (ne : ps ≠ []) (lo : ∀ p ∈ ps, Low p) : Low (mult ps) := ((mult_is ne).low (map_ne ne) (map_low lo)).sw
theorem meas_sz {ps : List NP} {B : Nat} (ne : ps ≠ []) (lo : ∀ p ∈ ps, Low p) (sz : ∀ p ∈ ps, p.1 < 2 ^ B ∧ p.2 < 2 ^ B) (len : ps.length ≤ 4) : (meas ps).1 < 2 ^ B ∧ (meas ps).2 ≤ 2 ^ (B * 4) := (meas_is ne).sz ne lo sz len
theorem mult_sz {ps : List NP} {B : Nat} (ne : ps ≠ []) (lo : ∀ p ∈ ps, Low p) (sz : ∀ p ∈ ps, p.1 < 2 ^ B ∧ p.2 < 2 ^ B) (len : ps.length ≤ 4) : (mult ps).2 < 2 ^ B ∧ (mult ps).1 ≤ 2 ^ (B * 4) :=
  (mult_is ne).sz (map_ne ne) (map_low lo) (fun p hp => by
    obtain ⟨q, hq, rfl⟩ := List.mem_map.mp hp
    exact ⟨(sz q hq).2, (sz q hq).1⟩) (by rw [List.length_map]; exact len)
def scl (p : NP) : NP := red (p.1 * 6, p.2 * 35)
theorem scl_eq (p : NP) : scl p = red (sc 6 35 p) := by
  show red (p.1 * 6, p.2 * 35) = red (6 * p.1, 35 * p.2)
  rw [Nat.mul_comm, Nat.mul_comm p.2]
theorem meas_scl {ps : List NP} (ne : ps ≠ []) (lo : ∀ p ∈ ps, Low p) : meas (ps.map scl) = scl (meas ps) := by
  rw [scl_eq, show scl = fun p => red (sc 6 35 p) from funext scl_eq]
  exact scal (by decide) (by decide) ne lo (meas_is ne) (meas_is (map_ne ne))
theorem mult_scl {ps : List NP} (ne : ps ≠ []) (lo : ∀ p ∈ ps, Low p) : mult (ps.map scl) = scl (mult ps) := by
  have k := mult_is (ps := ps.map scl) (map_ne ne)
  have e : (ps.map scl).map sw = (ps.map sw).map fun p => red (sc 35 6 p) := by
    rw [List.map_map, List.map_map]
    refine List.map_congr_left fun p _ => ?_
    show sw (scl p) = red (sc 35 6 (sw p))
    rw [scl_eq, red_sw]
    rfl
  rw [e] at k
  have := scal (al := 35) (be := 6) (by decide) (by decide) (map_ne ne) (map_low lo) (mult_is ne) k
  have h := congrArg sw this
  rw [red_sw] at h
  rw [scl_eq]
  exact h
theorem meas_quo {ps : List NP} (ne : ps ≠ []) (lo : ∀ p ∈ ps, Low p) {p : NP} (hp : p ∈ ps) : red (p.1 * (meas ps).2, p.2 * (meas ps).1) = (quo (meas ps) p, 1) ∧ 0 < quo (meas ps) p := by
  have lm := meas_low ne lo
  obtain ⟨a, b, _⟩ := quo_red (lo p hp) lm ((meas_is ne).to lm lo hp)
  exact ⟨a, b⟩
theorem mult_quo {ps : List NP} (ne : ps ≠ []) (lo : ∀ p ∈ ps, Low p) {p : NP} (hp : p ∈ ps) : red ((mult ps).1 * p.2, (mult ps).2 * p.1) = (quo (sw (mult ps)) (sw p), 1) ∧ 0 < quo (sw (mult ps)) (sw p) := by
  have lm := (mult_low ne lo).sw
  obtain ⟨a, b, _⟩ := quo_red (lo p hp).sw lm ((mult_is ne).to lm (map_low lo) (List.mem_map_of_mem hp))
  refine ⟨?_, b⟩
  rw [← a]
  show red ((mult ps).1 * p.2, (mult ps).2 * p.1) = red (p.2 * (mult ps).1, p.1 * (mult ps).2)
  rw [Nat.mul_comm, Nat.mul_comm p.1]
theorem meas_quo1 {ps : List NP} (ne : ps ≠ []) (lo : ∀ p ∈ ps, Low p) : (ps.map (quo (meas ps))).foldl (fun g n => Nat.gcd n g) 0 = 1 := by
  rw [List.foldl_map]
  exact quo_one ne lo (meas_is ne)
theorem mult_quo1 {ps : List NP} (ne : ps ≠ []) (lo : ∀ p ∈ ps, Low p) : (ps.map fun p => quo (sw (mult ps)) (sw p)).foldl (fun g n => Nat.gcd n g) 0 = 1 := by
  have h := quo_one (map_ne ne) (map_low lo) (mult_is ne)
  rw [List.foldl_map] at h
  rw [List.foldl_map]
  exact h
theorem meas_1 (p : NP) : meas [p] = p := by
  show (Nat.gcd p.1 p.1, Nat.lcm p.2 p.2) = p
  rw [Nat.gcd_self, Nat.lcm_self]
theorem mult_1 (p : NP) : mult [p] = p := by
  show (Nat.lcm p.1 p.1, Nat.gcd p.2 p.2) = p
  rw [Nat.gcd_self, Nat.lcm_self]
theorem meas_mult_2 (p q : NP) : ((meas [p, q]).1 * (mult [p, q]).1, (meas [p, q]).2 * (mult [p, q]).2) = (p.1 * q.1, p.2 * q.2) := by
  show (Nat.gcd (Nat.gcd p.1 p.1) q.1 * Nat.lcm (Nat.lcm p.1 p.1) q.1, Nat.lcm (Nat.lcm p.2 p.2) q.2 * Nat.gcd (Nat.gcd p.2 p.2) q.2) = _
  rw [Nat.gcd_self, Nat.lcm_self, Nat.gcd_self, Nat.lcm_self, Nat.gcd_mul_lcm, Nat.mul_comm (Nat.lcm p.2 q.2), Nat.gcd_mul_lcm]
theorem mem_rev (ps : List NP) (p : NP) : p ∈ ps.reverse ↔ p ∈ ps := List.mem_reverse
theorem mem_twice {p0 : NP} {rest : List NP} (p : NP) : p ∈ (p0 :: rest) ++ [p0] ↔ p ∈ p0 :: rest := by
  rw [List.mem_append]
  constructor
  · rintro (h | h)
    · exact h
    · rw [List.mem_singleton.mp h]
      exact List.mem_cons_self
  · exact .inl
theorem scl_low {p : NP} (h : Low p) : Low (scl p) := red_low (Nat.mul_pos h.a (by decide)) (Nat.mul_pos h.b (by decide))
theorem scl_sz {p : NP} {B : Nat} (ha : p.1 < 2 ^ B) (hb : p.2 < 2 ^ B) : (scl p).1 < 2 ^ (B + 6) ∧ (scl p).2 < 2 ^ (B + 6) := by
  rw [Nat.pow_add]
  have e1 : (scl p).1 ≤ p.1 * 6 := Nat.div_le_self _ _
  have e2 : (scl p).2 ≤ p.2 * 35 := Nat.div_le_self _ _
  generalize 2 ^ B = X at *
  have : (2 : Nat) ^ 6 = 64 := by decide
  omega
end Mth
set_option Elab.async false
set_option linter.all false
set_option maxRecDepth 100000
set_option maxHeartbeats 4000000
namespace K4
open PySem PySem.Spec PyProof.Rows L2 RmX Rm
def top (i : Nat) : Stmt := PySem.Challenge.pw_roompace_k04_measures_and_multiples.main.body.getD i (.Pass ⟨0, 0, 0, 0⟩)
abbrev sBegin : Stmt := top 19
abbrev sMixed : Stmt := top 20
abbrev sNext : Stmt := top 21

/-! ### the draw: a dict of four -/
abbrev kC : Key := Sum.inr (Str.ofString "cells")
abbrev kA : Key := Sum.inr (Str.ofString "at")
abbrev kL : Key := Sum.inr (Str.ofString "left")
abbrev kU : Key := Sum.inr (Str.ofString "used")
def kvD (c : Addr) (a l u : Int) : List (Key × V) := [(kC, V.ref c), (kA, V.int a), (kL, V.int l), (kU, V.int u)]
theorem n1 : ¬ (Str.ofString "cells" = Str.ofString "at") := by decide +kernel
theorem n2 : ¬ (Str.ofString "cells" = Str.ofString "left") := by decide +kernel
theorem n3 : ¬ (Str.ofString "cells" = Str.ofString "used") := by decide +kernel
theorem n4 : ¬ (Str.ofString "at" = Str.ofString "left") := by decide +kernel
theorem n5 : ¬ (Str.ofString "at" = Str.ofString "used") := by decide +kernel
theorem n6 : ¬ (Str.ofString "left" = Str.ofString "used") := by decide +kernel
theorem m1 : ¬ (Str.ofString "at" = Str.ofString "cells") := by decide +kernel
theorem m2 : ¬ (Str.ofString "left" = Str.ofString "cells") := by decide +kernel
theorem m3 : ¬ (Str.ofString "used" = Str.ofString "cells") := by decide +kernel
theorem m4 : ¬ (Str.ofString "left" = Str.ofString "at") := by decide +kernel
theorem m5 : ¬ (Str.ofString "used" = Str.ofString "at") := by decide +kernel
theorem m6 : ¬ (Str.ofString "used" = Str.ofString "left") := by decide +kernel
theorem ki {x y : Str} (h : ¬ x = y) : ¬ ((Sum.inr x : Key) = Sum.inr y) := fun z => h (Sum.inr.inj z)
theorem vC (c : Addr) (a l u : Int) : valV (kvD c a l u) kC = some (V.ref c) := valV_pos rfl
theorem vA (c : Addr) (a l u : Int) : valV (kvD c a l u) kA = some (V.int a) := (valV_neg (ki n1)).trans (valV_pos rfl)
theorem vL (c : Addr) (a l u : Int) : valV (kvD c a l u) kL = some (V.int l) := (valV_neg (ki n2)).trans ((valV_neg (ki n4)).trans (valV_pos rfl))
theorem vU (c : Addr) (a l u : Int) : valV (kvD c a l u) kU = some (V.int u) := (valV_neg (ki n3)).trans ((valV_neg (ki n5)).trans ((valV_neg (ki n6)).trans (valV_pos rfl)))
theorem pA (c : Addr) (a l u x : Int) : putK (kvD c a l u) kA (V.int x) = kvD c x l u := by
  have e1 := n1; have e4 := m4; have e5 := m5
  simp [putK, kvD, e1, e4, e5]
theorem pL (c : Addr) (a l u x : Int) : putK (kvD c a l u) kL (V.int x) = kvD c a x u := by
  have e2 := n2; have e4 := n4; have e6 := m6
  simp [putK, kvD, e2, e4, e6]
theorem pU (c : Addr) (a l u x : Int) : putK (kvD c a l u) kU (V.int x) = kvD c a l x := by
  have e3 := n3; have e5 := n5; have e6 := n6
  simp [putK, kvD, e3, e5, e6]
theorem dk_mk (c : Addr) (a l u : Int) : mergeK [] (kvD c a l u) = kvD c a l u := by
  have e1 := n1; have e2 := n2; have e3 := n3; have e4 := n4; have e5 := n5; have e6 := n6
  simp [mergeK, putK, kvD, e1, e2, e3, e4, e5, e6]
/-- the draw stands at p, its cells at c; fewer than n + 1 cells were passed -/
def DrawAt (H : Hp) (p c : Addr) (n : Nat) : Prop := ∃ (a l u : Int) (ns : List Int), H p = some (.dK (kvD c a l u)) ∧ H c = some (.lst (ns.map V.int)) ∧ 0 < ns.length ∧ ns.length ≤ 64 ∧ 0 ≤ a ∧ a ≤ n ∧ 0 ≤ l ∧ 0 ≤ u ∧ u ≤ n
/-- all that was tracked stays, but p -/
def Kp (p : Addr) (H H' : Hp) : Prop := ∀ b o, H b = some o → b ≠ p → H' b = some o
theorem Kp.refl (p : Addr) (H : Hp) : Kp p H H := fun _ _ e _ => e
theorem Kp.trans {p : Addr} {H H1 H2 : Hp} (a : Kp p H H1) (b : Kp p H1 H2) : Kp p H H2 := fun c o e n => b c o (a c o e n) n
theorem Kp.new {p a : Addr} {H H' : Hp} {o : HO} (k : Kp p H H') (n : H' a = none) : Kp p H (upd H' a o) := fun c u e hn => by
  rw [upd_ne (ne_of_none (k c u e hn) n)]
  exact k c u e hn
theorem Kp.newS {p a : Addr} {H : Hp} {o : HO} (n : H a = none) : Kp p H (upd H a o) := (Kp.refl p H).new n
theorem Kp.self {p : Addr} {H : Hp} {o : HO} : Kp p H (upd H p o) := fun c u e hn => by rw [upd_ne hn]; exact e
theorem DrawAt.p {H : Hp} {p c : Addr} {n : Nat} (d : DrawAt H p c n) : ∃ o, H p = some o := by
  obtain ⟨a, l, u, ns, h, _⟩ := d
  exact ⟨_, h⟩
theorem DrawAt.ne {H : Hp} {p c : Addr} {n : Nat} (d : DrawAt H p c n) : c ≠ p := by
  obtain ⟨a, l, u, ns, h, h2, _⟩ := d
  exact ne_of h2 h (by intro z; cases z)
theorem DrawAt.mono {H : Hp} {p c : Addr} {n m : Nat} (d : DrawAt H p c n) (h : n ≤ m) : DrawAt H p c m := by
  obtain ⟨a, l, u, ns, h1, h2, h3, h4, h5, h6, h7, h8, h9⟩ := d
  exact ⟨a, l, u, ns, h1, h2, h3, h4, h5, by omega, h7, h8, by omega⟩
theorem DrawAt.same {H H' : Hp} {p c : Addr} {n : Nat} (d : DrawAt H p c n) (s : Same H H') : DrawAt H' p c n := by
  obtain ⟨a, l, u, ns, h1, h2, h3⟩ := d
  exact ⟨a, l, u, ns, s _ _ h1, s _ _ h2, h3⟩
/-- script's, draw's and mixer's promises -/
def spBegin (K : PySem.W.Frag) : Sp := fun vs H Q _ => ∃ (a : Addr) (ns : List Int), vs = [.ref a] ∧ SqL K H a (ns.map V.int) ∧ ns.length ≤ 63 ∧ ∀ p c H', DrawAt H' p c 0 → Same H H' → Q (.ref p) H'
def spMixed : Sp := fun vs H Q _ => ∃ (cell k : Int), vs = [.int cell, .int k] ∧ 0 ≤ k ∧ k < 2 ^ 40 ∧ ∀ r : Int, 0 ≤ r → r < 2 ^ 31 → Q (.int r) H
def spNext : Sp := fun vs H Q _ => ∃ (p c : Addr) (n : Nat) (bound : Int), vs = [.ref p, .int bound] ∧ DrawAt H p c n ∧ n < 2 ^ 30 ∧ 0 < bound ∧ bound < 2 ^ 30 ∧
  ∀ (r : Int) (H' : Hp), 0 ≤ r → r < bound → DrawAt H' p c (n + 1) → Kp p H H' → (∀ b, b ≠ p → H' b = H b) → Q (.int r) H'
structure TxtD (K : PySem.W.Frag) (mg : Str → Option Value) (fM : Addr) : Prop where
  len : mg "len" = none
  gM : mg "_law_mixed" = some (.ref fM)
  kM : PySem.W.keepIn K (.ref fM) = true
section
variable {P : Program} {w : World} {K : PySem.W.Frag} {mg : Str → Option Value} {base : Heap}
theorem scB : FnScope ["script"] ["script"] (defScope sBegin) := ⟨rfl, rfl, rfl, by decide +kernel, rfl, by decide +kernel, by decide +kernel⟩
theorem ok_begin {f : Addr} {fd : FuncData} (F : Fun K "_law_begin" "_law_begin" sBegin f fd) : FnG P w K mg base 1 f fd ["script"] (spBegin K) := by
  refine okG F scB (fun vs H Q E h => ?_) (fun cdv A outer s H vs Q E hr hgd h => ?_)
  · obtain ⟨a, ns, rfl, _⟩ := h
    rfl
  · obtain ⟨a, ns, rfl, hS, hl, k⟩ := h
    refine ⟨_, pss_one (ps_ret (pe_disp (pps_cons pe_str (pe_op op_catS (pv 0) (pe_lst (pa_cons pe_int pa_nil))) (pps_cons pe_str pe_int (pps_cons pe_str pe_int (pps_cons pe_str pe_int pps_nil)))) (by rfl) (by rfl) (fun z => by cases z) (by decide))), ?_⟩
    intro p np
    have s1 : Same H (upd H p (.dK [])) := fun b o e => by rw [upd_ne (ne_of_none e np)]; exact e
    refine ⟨_, rfl, by rw [sizeLine_eq]; show 1 ≤ 16777216; decide, fun l nl => ?_⟩
    have s2 : Same H (upd (upd H p (.dK [])) l (.lst [V.int 0])) := fun b o e => by rw [upd_ne (ne_of_none (s1 b o e) nl)]; exact s1 b o e
    refine ⟨a, l, ns.map V.int, [V.int 0], rfl, rfl, s2.seq hS, SqL.of upd_same, by rw [List.length_map, sizeLine_eq]; show ns.length + 1 ≤ _; omega, fun c nc => ?_⟩
    have s3 : Same H (upd (upd (upd H p (.dK [])) l (.lst [V.int 0])) c (.lst (ns.map V.int ++ [V.int 0]))) := fun b o e => by rw [upd_ne (ne_of_none (s2 b o e) nc)]; exact s2 b o e
    have npl : p ≠ l := ne_of_none upd_same nl
    have npc : p ≠ c := ne_of_none (show (upd (upd H p (.dK [])) l (.lst [V.int 0])) p = some (.dK []) by rw [upd_ne npl, upd_same]) nc
    refine ⟨by rw [upd_ne npc, upd_ne npl, upd_same], kvD c 0 0 0, rfl, by show 4 ≤ 15; decide, ?_⟩
    rw [dk_mk]
    refine k p c _ ⟨0, 0, 0, ns ++ [0], upd_same, ?_, by simp, by simp; omega, by omega, by omega, by omega, by omega, by omega⟩ fun b o e => ?_
    · rw [upd_ne (Ne.symm npc), upd_same, List.map_append]
      rfl
    · rw [upd_ne (ne_of_none e np)]
      exact s3 b o e
theorem md (e : Int) {M : Int} (h : 0 < M) (hM : M < 2 ^ 64) : -(2 ^ 64) < e % M ∧ e % M < 2 ^ 64 := by
  have a := Int.emod_nonneg e (show M ≠ 0 by omega)
  have b := Int.emod_lt_of_pos e h
  omega
theorem fin_b (e : Int) : 0 ≤ e % 2147483647 / 7 ∧ e % 2147483647 / 7 < 2 ^ 31 := by omega
theorem scM : FnScope ["cell", "k", "mixed"] ["cell", "k"] (defScope sMixed) := ⟨rfl, rfl, rfl, by decide +kernel, rfl, by decide +kernel, by decide +kernel⟩
theorem ok_mixed {f : Addr} {fd : FuncData} (F : Fun K "_law_mixed" "_law_mixed" sMixed f fd) : FnG P w K mg base 1 f fd ["cell", "k"] spMixed := by
  refine okG F scM (fun vs H Q E h => ?_) (fun cdv A outer s H vs Q E hr hgd h => ?_)
  · obtain ⟨cell, k, rfl, _⟩ := h
    rfl
  · obtain ⟨cell, k, rfl, h0, h1, kq⟩ := h
    refine ⟨_, pss_cons (ps_set (i := 2) scM.nd rfl (Or.inl rfl) (pe_op op_mod (pe_op op_add (pe_op op_add (pe_op op_add (pe_op op_mod (pv 0) pe_int) (pe_op op_mul (pe_op op_mul pe_int (pv 1)) (pv 1))) (pe_op op_mul pe_int (pv 1))) pe_int) pe_int))
      (pss_cons (ps_set (i := 2) scM.nd rfl (Or.inl rfl) (pe_op op_mod (pe_op op_mul (pe_op op_mod (pe_op op_mul (pv 2) (pv 2)) pe_int) (pv 2)) pe_int))
      (pss_one (ps_ret (pe_op op_fdiv (pe_op op_mod (pe_op op_mul (pv 2) (pe_op op_add pe_int (pe_op op_mul pe_int (pe_op op_mod (pv 1) pe_int)))) pe_int) pe_int)))), ?_⟩
    refine ⟨_, rfl, _, _, rfl, rfl, (by show (0 : Int) < 1000000007; decide), _, rfl, _, _, rfl, rfl, .inl ⟨by decide, by decide⟩, _, rfl, _, _, rfl, rfl, .inr ⟨by omega, by omega⟩, _, _, rfl, rfl, _, rfl, _, _, rfl, rfl, .inl ⟨by decide, by decide⟩, _, _, rfl, rfl, _, _, rfl, rfl, _, _, rfl, rfl, (by show (0 : Int) < 2147483647; decide), ?_⟩
    refine ⟨_, rfl, _, rfl, _, _, rfl, rfl, .inl (md _ (by decide) (by decide)), _, _, rfl, rfl, (by show (0 : Int) < 2147483647; decide), _, rfl, _, _, rfl, rfl, .inl (md _ (by decide) (by decide)), _, _, rfl, rfl, (by show (0 : Int) < 2147483629; decide), ?_⟩
    refine ⟨_, rfl, _, rfl, _, _, rfl, rfl, (by show (0 : Int) < 1000; decide), _, _, rfl, rfl, .inl ⟨by decide, by decide⟩, _, _, rfl, rfl, _, _, rfl, rfl, .inl (md _ (by decide) (by decide)), _, _, rfl, rfl, (by show (0 : Int) < 2147483647; decide), _, _, rfl, rfl, ⟨by decide, by decide⟩, ?_⟩
    exact kq _ (fin_b _).1 (fin_b _).2
theorem scN : FnScope ["draw", "bound", "found", "cells", "cell"] ["draw", "bound"] (defScope sNext) := ⟨rfl, rfl, rfl, by decide +kernel, rfl, by decide +kernel, by decide +kernel⟩
theorem ok_next {f fM : Addr} {fd fdM : FuncData} (F : Fun K "_law_next" "_law_next" sNext f fd) (T : TxtD K mg fM) (FM : Fun K "_law_mixed" "_law_mixed" sMixed fM fdM) (bM : Binds K fdM ["cell", "k"] []) : FnG P w K mg base 2 f fd ["draw", "bound"] spNext := by
  have GM : FnG P w K mg base 1 fM fdM ["cell", "k"] spMixed := ok_mixed FM
  refine okG F scN (fun vs H Q E h => ?_) (fun cdv A outer s H vs Q E hr hgd h => ?_)
  · obtain ⟨p, c, n, b, rfl, _⟩ := h
    rfl
  · obtain ⟨p, c, n, bd, rfl, D, hn, b0, b1, kq⟩ := h
    have hu := hu_of hr
    obtain ⟨a, l, u, ns, h1, h2, h3, h4, h5, h6, h7, h8, h9⟩ := id D
    have ncp : c ≠ p := D.ne
    refine ⟨_, pss_cons (ps_if (pt_cmpR op_gt (pe_dget hu (pv 0) pe_str (fun _ _ => rfl)) pe_int (nomark _))
        (pss_cons (ps_set (i := 2) scN.nd rfl (Or.inl rfl) (pe_op op_mod (pe_dget hu (pv 0) pe_str (fun _ _ => rfl)) (pv 1)))
          (pss_cons (ps_dput hu (pv 0) pe_str (pe_op op_fdiv (pe_dget hu (pv 0) pe_str (fun _ _ => rfl)) (pv 1)) rfl)
          (pss_one (ps_ret (pv 2))))) pss_nil)
      (pss_cons (ps_set (i := 3) scN.nd rfl (Or.inl rfl) (pe_dget hu (pv 0) pe_str (fun _ _ => rfl)))
      (pss_cons (ps_set (i := 4) scN.nd rfl (Or.inl rfl) (pe_ix ix_list (pv 3) (pe_op op_mod (pe_dget hu (pv 0) pe_str (fun _ _ => rfl)) (pe_callB call_len_seq (by rfl) T.len PySem.boot_len (pa_cons (pv 3) pa_nil))) (fun _ _ => rfl)))
      (pss_cons (ps_dput hu (pv 0) pe_str (pe_op op_add (pe_dget hu (pv 0) pe_str (fun _ _ => rfl)) pe_int) rfl)
      (pss_cons (ps_if (PW.pt (pw_and (pt_cmpR op_ge (pv 4) (pe_op op_pow pe_int pe_int) (nomark _)) (pw_and1 (pt_cmpR op_le (pe_dget hu (pv 0) pe_str (fun _ _ => rfl)) (pe_callB call_len_seq (by rfl) T.len PySem.boot_len (pa_cons (pv 3) pa_nil)) (nomark _)))))
        (pss_cons (ps_dput hu (pv 0) pe_str (pe_op op_fdiv (pv 4) (pv 1)) rfl) (pss_one (ps_ret (pe_op op_mod (pv 4) (pv 1))))) pss_nil)
      (pss_cons (ps_dput hu (pv 0) pe_str (pe_op op_add (pe_dget hu (pv 0) pe_str (fun _ _ => rfl)) pe_int) rfl)
      (pss_one (ps_ret (pe_op op_mod (pe_callG (E := fun _ => E0) GM hr hgd rfl T.gM T.kM bM .nil pass0G (pa_cons (pe_callG (E := fun _ => E0) GM hr hgd rfl T.gM T.kM bM .nil pass0G (pa_cons (pv 4) (pa_cons (pe_dget hu (pv 0) pe_str (fun _ _ => rfl)) pa_nil))) (pa_cons (pe_dget hu (pv 0) pe_str (fun _ _ => rfl)) pa_nil))) (pv 1))))))))), ?_⟩
    have dg : ∀ {G : Hp} {a' l' u' : Int}, G p = some (.dK (kvD c a' l' u')) → DGet G p (.str (Str.ofString "left")) (some (.int l')) ∧ DGet G p (.str (Str.ofString "at")) (some (.int a')) ∧ DGet G p (.str (Str.ofString "used")) (some (.int u')) ∧ DGet G p (.str (Str.ofString "cells")) (some (.ref c)) := fun {G a' l' u'} e => by
      refine ⟨?_, ?_, ?_, ?_⟩
      · rw [← vL c a' l' u']; exact DGet.k (k := kL) e
      · rw [← vA c a' l' u']; exact DGet.k (k := kA) e
      · rw [← vU c a' l' u']; exact DGet.k (k := kU) e
      · rw [← vC c a' l' u']; exact DGet.k (k := kC) e
    have dpL : ∀ {G : Hp} {a' l' u' : Int} (x : Int), G p = some (.dK (kvD c a' l' u')) → DPut G p (.str (Str.ofString "left")) (.int x) (upd G p (.dK (kvD c a' x u'))) := fun {G a' l' u'} x e => by
      rw [← pL c a' l' u' x]; exact DPut.k (k := kL) e (by rw [sizeLine_eq]; show 4 < 16777216; decide)
    have dpA : ∀ {G : Hp} {a' l' u' : Int} (x : Int), G p = some (.dK (kvD c a' l' u')) → DPut G p (.str (Str.ofString "at")) (.int x) (upd G p (.dK (kvD c x l' u'))) := fun {G a' l' u'} x e => by
      rw [← pA c a' l' u' x]; exact DPut.k (k := kA) e (by rw [sizeLine_eq]; show 4 < 16777216; decide)
    have dpU : ∀ {G : Hp} {a' l' u' : Int} (x : Int), G p = some (.dK (kvD c a' l' u')) → DPut G p (.str (Str.ofString "used")) (.int x) (upd G p (.dK (kvD c a' l' x))) := fun {G a' l' u'} x e => by
      rw [← pU c a' l' u' x]; exact DPut.k (k := kU) e (by rw [sizeLine_eq]; show 4 < 16777216; decide)
    have fin : ∀ {a' l' u' : Int} (r : Int), 0 ≤ a' → a' ≤ a + 1 → 0 ≤ l' → 0 ≤ u' → u' ≤ u + 1 → 0 ≤ r → r < bd → Q (.int r) (upd H p (.dK (kvD c a' l' u'))) := fun {a' l' u'} r e1 e2 e3 e4 e5 e6 e7 =>
      kq r _ e6 e7 ⟨a', l', u', ns, upd_same, by rw [upd_ne ncp]; exact h2, h3, h4, e1, by omega, e3, e4, by omega⟩ Kp.self fun b hb => upd_ne hb
    refine ⟨_, rfl, p, .int l, rfl, (dg h1).1, _, _, rfl, rfl, _, rfl, ?_⟩
    refine ite2 (fun hl => ?_) (fun hl => ?_)
    · have hl0 : 0 < l := of_decide_eq_true hl
      refine ⟨_, rfl, p, .int l, rfl, (dg h1).1, _, rfl, _, _, rfl, rfl, b0, ?_⟩
      refine ⟨_, rfl, p, .int l, rfl, (dg h1).1, _, rfl, _, _, rfl, rfl, ⟨b0, by omega⟩, _, rfl, p, _, rfl, dpL _ h1, _, rfl, ?_⟩
      exact fin _ h5 (by omega) (Int.ediv_nonneg h7 (by omega)) h8 (by omega) (Int.emod_nonneg _ (by omega)) (Int.emod_lt_of_pos _ b0)
    · refine ⟨_, rfl, p, .ref c, rfl, (dg h1).2.2.2, ?_⟩
      have hlen : ((ns.map V.int).length : Int) = (ns.length : Int) := by rw [List.length_map]
      obtain ⟨x, hx⟩ : ∃ x : Int, atI (ns.map V.int) (a % ((ns.map V.int).length : Int)) = some (V.int x) := by
        rw [hlen]
        have e0 := Int.emod_nonneg a (show (ns.length : Int) ≠ 0 by omega)
        have e1 := Int.emod_lt_of_pos a (show (0 : Int) < (ns.length : Int) by omega)
        obtain ⟨j, hj⟩ : ∃ j : Nat, a % (ns.length : Int) = (j : Int) := ⟨(a % (ns.length : Int)).toNat, by omega⟩
        rw [hj]
        have hjl : j < ns.length := by omega
        exact ⟨ns[j], atI_nat (by rw [List.getElem?_map, List.getElem?_eq_getElem hjl]; rfl)⟩
      refine ⟨_, rfl, _, rfl, p, .int a, rfl, (dg h1).2.1, _, rfl, c, _, rfl, .inl (SqL.of h2), _, _, rfl, rfl, by rw [hlen]; omega, c, _, _, .int x, rfl, rfl, SqL.of h2, hx, ?_⟩
      refine ⟨_, rfl, p, .int a, rfl, (dg h1).2.1, _, _, rfl, rfl, _, rfl, p, _, rfl, dpA _ h1, ?_⟩
      have g1 : (upd H p (.dK (kvD c (a + 1) l u))) p = some (.dK (kvD c (a + 1) l u)) := upd_same
      have g2 : (upd H p (.dK (kvD c (a + 1) l u))) c = some (.lst (ns.map V.int)) := by rw [upd_ne ncp]; exact h2
      refine ⟨_, rfl, _, _, rfl, rfl, ⟨by decide, by decide, by decide⟩, _, _, rfl, rfl, _, rfl, ?_⟩
      refine ite2 (fun hc => ?_) (fun hc => iteF ?_)
      · refine ⟨_, rfl, p, _, rfl, (dg g1).2.1, _, rfl, c, _, rfl, .inl (SqL.of g2), _, _, rfl, rfl, _, rfl, ?_⟩
        refine ite2 (fun hd => ?_) (fun hd => ?_)
        · have hx0 : (10 : Int) ^ 18 ≤ x := of_decide_eq_true hc
          refine ⟨_, rfl, _, rfl, _, _, rfl, rfl, ⟨b0, by omega⟩, _, rfl, p, _, rfl, dpL _ g1, _, rfl, _, rfl, _, _, rfl, rfl, b0, ?_⟩
          rw [upd_upd]
          exact fin _ (by omega) (by omega) (Int.ediv_nonneg (by omega) (by omega)) h8 (by omega) (Int.emod_nonneg _ (by omega)) (Int.emod_lt_of_pos _ b0)
        · refine ⟨_, rfl, p, _, rfl, (dg g1).2.2.1, _, _, rfl, rfl, _, rfl, p, _, rfl, dpU _ g1, ?_⟩
          have f1 : (upd (upd H p (.dK (kvD c (a + 1) l u))) p (.dK (kvD c (a + 1) l (u + 1)))) p = some (.dK (kvD c (a + 1) l (u + 1))) := upd_same
          refine ⟨_, rfl, _, rfl, p, _, rfl, (dg f1).2.1, x, a + 1, rfl, by omega, by omega, fun r1 r10 r11 => ?_⟩
          refine ⟨_, rfl, p, _, rfl, (dg f1).2.2.1, r1, u + 1, rfl, by omega, by omega, fun r2 r20 r21 => ?_⟩
          refine ⟨_, rfl, _, _, rfl, rfl, b0, ?_⟩
          rw [upd_upd]
          exact fin _ (by omega) (by omega) h7 (by omega) (by omega) (Int.emod_nonneg _ (by omega)) (Int.emod_lt_of_pos _ b0)
      · refine ⟨_, rfl, p, _, rfl, (dg g1).2.2.1, _, _, rfl, rfl, _, rfl, p, _, rfl, dpU _ g1, ?_⟩
        have f1 : (upd (upd H p (.dK (kvD c (a + 1) l u))) p (.dK (kvD c (a + 1) l (u + 1)))) p = some (.dK (kvD c (a + 1) l (u + 1))) := upd_same
        refine ⟨_, rfl, _, rfl, p, _, rfl, (dg f1).2.1, x, a + 1, rfl, by omega, by omega, fun r1 r10 r11 => ?_⟩
        refine ⟨_, rfl, p, _, rfl, (dg f1).2.2.1, r1, u + 1, rfl, by omega, by omega, fun r2 r20 r21 => ?_⟩
        refine ⟨_, rfl, _, _, rfl, rfl, b0, ?_⟩
        rw [upd_upd]
        exact fin _ (by omega) (by omega) h7 (by omega) (by omega) (Int.emod_nonneg _ (by omega)) (Int.emod_lt_of_pos _ b0)
end
end K4
set_option Elab.async false
set_option linter.all false
set_option maxRecDepth 100000
set_option maxHeartbeats 4000000
namespace K4
open PySem PySem.Spec PyProof.Rows L2 RmX Rm Mth
abbrev sNum : Stmt := top 8
abbrev sIsI : Stmt := top 9
abbrev sIsN : Stmt := top 10
abbrev sChk : Stmt := top 12
abbrev sMul : Stmt := top 13
abbrev sDiv : Stmt := top 14
/-! ### promises -/
def isI : PyData → Bool
  | .int _ => true
  | _ => false
def isN : PyData → Bool
  | .tuple [.int a, .int b] => decide (1 ≤ b) && decide (((Nat.gcd a.natAbs b.natAbs : Nat) : Int) = 1)
  | _ => false
def spIsI (K : PySem.W.Frag) : Sp := fun vs H Q _ => ∃ x d, vs = [x] ∧ Dp K H x d ∧ Q (.bl (isI d)) H
def spIsN (K : PySem.W.Frag) : Sp := fun vs H Q _ => ∃ x d, vs = [x] ∧ Dp K H x d ∧ Q (.bl (isN d)) H
/-- InvalidNumber(x) leaves -/
def Bad (C : Addr) (x : V) (H : Hp) (E : XK) : Prop := ∀ dx, H dx = none → E (.ref C) (some dx) (upd H dx (.xd [(Str.ofString "thing", x)]))
def spChk (K : PySem.W.Frag) (C : Addr) : Sp := fun vs H Q E => ∃ x d, vs = [x] ∧ Dp K H x d ∧ (isN d = true → Q .non H) ∧ (isN d = false → Fit d ∧ Bad C x H E)
/-- what the written part says -/
structure TxtN (P : Program) (K : PySem.W.Frag) (mg : Str → Option Value) (C fI fNum fIsI fIsN fChk : Addr) : Prop where
  ex : ExT P K mg C fI (Str.ofString "thing") "ValueError" "ValueError.__new__" "ValueError.__init__" [.type "ValueError", .type "Exception", .type "BaseException", .type "object"]
  gC : mg "InvalidNumber" = some (.ref C)
  sup : mg "super" = none
  len : mg "len" = none
  isi : mg "isinstance" = none
  gint : mg "int" = none
  gbool : mg "bool" = none
  gtup : mg "tuple" = none
  gcd : mg "gcd" = some (.builtin "math.gcd")
  gNum : mg "number" = some (.ref fNum)
  kNum : PySem.W.keepIn K (.ref fNum) = true
  gIsI : mg "is_integer" = some (.ref fIsI)
  kIsI : PySem.W.keepIn K (.ref fIsI) = true
  gIsN : mg "is_number" = some (.ref fIsN)
  kIsN : PySem.W.keepIn K (.ref fIsN) = true
  gChk : mg "check_number" = some (.ref fChk)
  kChk : PySem.W.keepIn K (.ref fChk) = true
theorem fn_thing : FName (Str.ofString "thing") := ⟨rfl, by decide, by decide +kernel, by decide +kernel, rfl, rfl, rfl, fun _ _ _ _ _ _ _ _ _ _ _ _ => rfl, fun _ _ _ _ _ _ _ _ _ _ _ _ => rfl⟩
theorem kb (a b : String) {r : Bool} (h : kitB a b = some r) {K : PySem.W.Frag} : PySem.W.kitOne K (.type a) (.type b) = some r := kit_ty h
theorem k_non_int : kitB "NoneType" "int" = some false := by decide +kernel
theorem k_bl_int : kitB "bool" "int" = some true := by decide +kernel
theorem k_int_int : kitB "int" "int" = some true := by decide +kernel
theorem k_str_int : kitB "str" "int" = some false := by decide +kernel
theorem k_lst_int : kitB "list" "int" = some false := by decide +kernel
theorem k_tup_int : kitB "tuple" "int" = some false := by decide +kernel
theorem k_int_bl : kitB "int" "bool" = some false := by decide +kernel
theorem k_bl_bl : kitB "bool" "bool" = some true := by decide +kernel
theorem k_non_tup : kitB "NoneType" "tuple" = some false := by decide +kernel
theorem k_bl_tup : kitB "bool" "tuple" = some false := by decide +kernel
theorem k_int_tup : kitB "int" "tuple" = some false := by decide +kernel
theorem k_str_tup : kitB "str" "tuple" = some false := by decide +kernel
theorem k_lst_tup : kitB "list" "tuple" = some false := by decide +kernel
theorem k_tup_tup : kitB "tuple" "tuple" = some true := by decide +kernel
section
variable {P : Program} {w : World} {K : PySem.W.Frag} {mg : Str → Option Value} {base : Heap} {C fI fNum fIsI fIsN fChk : Addr}
theorem scII : FnScope ["thing"] ["thing"] (defScope sIsI) := ⟨rfl, rfl, rfl, by decide +kernel, rfl, by decide +kernel, by decide +kernel⟩
theorem ok_isI {f : Addr} {fd : FuncData} (F : Fun K "is_integer" "is_integer" sIsI f fd) (T : TxtN P K mg C fI fNum fIsI fIsN fChk) : FnG P w K mg base 1 f fd ["thing"] (spIsI K) := by
  refine okG F scII (fun vs H Q E h => ?_) (fun cdv A outer s H vs Q E hr hgd h => ?_)
  · obtain ⟨x, d, rfl, _⟩ := h
    rfl
  · obtain ⟨x, d, rfl, hd, k⟩ := h
    refine ⟨_, pss_one (ps_ret (pe_and (pe_callB call_isi (by rfl) T.isi (by decide +kernel) (pa_cons (pv 0) (pa_cons (pe_bltn (v := .ty "int") (by rfl) T.gint (by decide +kernel) rfl) pa_nil)))
      (pe_one (pe_not (pe_callB call_isi (by rfl) T.isi (by decide +kernel) (pa_cons (pv 0) (pa_cons (pe_bltn (v := .ty "bool") (by rfl) T.gbool (by decide +kernel) rfl) pa_nil))))))), ?_⟩
    have ty := dpTy hd
    cases hd with
    | int i =>
      refine ⟨_, rfl, _, _, _, _, true, rfl, .ty "int", ty, kb "int" "int" k_int_int, _, rfl, iteT ?_⟩
      exact ⟨_, rfl, _, _, _, _, false, rfl, .ty "bool", ty, kb "int" "bool" k_int_bl, _, rfl, k⟩
    | bl b =>
      refine ⟨_, rfl, _, _, _, _, true, rfl, .ty "int", ty, kb "bool" "int" k_bl_int, _, rfl, iteT ?_⟩
      exact ⟨_, rfl, _, _, _, _, true, rfl, .ty "bool", ty, kb "bool" "bool" k_bl_bl, _, rfl, k⟩
    | non => exact ⟨_, rfl, _, _, _, _, false, rfl, .ty "int", ty, kb "NoneType" "int" k_non_int, _, rfl, iteF k⟩
    | str x => exact ⟨_, rfl, _, _, _, _, false, rfl, .ty "int", ty, kb "str" "int" k_str_int, _, rfl, iteF k⟩
    | lst h1 h2 => exact ⟨_, rfl, _, _, _, _, false, rfl, .ty "int", ty, kb "list" "int" k_lst_int, _, rfl, iteF k⟩
    | tup h1 h2 => exact ⟨_, rfl, _, _, _, _, false, rfl, .ty "int", ty, kb "tuple" "int" k_tup_int, _, rfl, iteF k⟩
theorem scIN : FnScope ["thing", "above", "below"] ["thing"] (defScope sIsN) := ⟨rfl, rfl, rfl, by decide +kernel, rfl, by decide +kernel, by decide +kernel⟩
theorem isN_not2 : ∀ {ds : List PyData}, ds.length ≠ 2 → isN (.tuple ds) = false
  | [], _ => rfl
  | [d1], _ => by cases d1 <;> rfl
  | [_, _], h => absurd rfl h
  | d1 :: d2 :: _ :: _, _ => by cases d1 <;> cases d2 <;> rfl
theorem isN_notI {a b : PyData} (h : isI a = false ∨ isI b = false) : isN (.tuple [a, b]) = false := by
  cases a <;> cases b <;> first | rfl | (rcases h with h | h <;> cases h)
theorem isI_int {d : PyData} (h : isI d = true) : ∃ i, d = .int i := by
  cases d <;> first | exact ⟨_, rfl⟩ | cases h
theorem dpAll_len {K : PySem.W.Frag} {H : Hp} : ∀ {xs : List V} {ds : List PyData}, DpAll K H xs ds → xs.length = ds.length
  | _, _, .nil => rfl
  | _, _, .cons _ t => by rw [List.length_cons, List.length_cons, dpAll_len t]
theorem ok_isN {f : Addr} {fd fdI : FuncData} (F : Fun K "is_number" "is_number" sIsN f fd) (T : TxtN P K mg C fI fNum fIsI fIsN fChk) (FI : Fun K "is_integer" "is_integer" sIsI fIsI fdI) (bI : Binds K fdI ["thing"] []) : FnG P w K mg base 2 f fd ["thing"] (spIsN K) := by
  have GI : FnG P w K mg base 1 fIsI fdI ["thing"] (spIsI K) := ok_isI FI T
  refine okG F scIN (fun vs H Q E h => ?_) (fun cdv A outer s H vs Q E hr hgd h => ?_)
  · obtain ⟨x, d, rfl, _⟩ := h
    rfl
  · obtain ⟨x, d, rfl, hd, k⟩ := h
    refine ⟨_, pss_cons (ps_if (PW.pt (pw_or (pt_not (pt_val (pe_callB call_isi (by rfl) T.isi (by decide +kernel) (pa_cons (pv 0) (pa_cons (pe_bltn (v := .ty "tuple") (by rfl) T.gtup (by decide +kernel) rfl) pa_nil)))))
        (pw_or1 (pt_cmpR op_ne (pe_callB call_len_seq (by rfl) T.len PySem.boot_len (pa_cons (pv 0) pa_nil)) pe_int (nomark _))))) (pss_one (ps_ret pe_bl)) pss_nil)
      (pss_cons (ps_asg (pv 0) (pg_tup rfl (pgs_cons (pg_name (i := 1) scIN.nd rfl (Or.inl rfl)) (pgs_cons (pg_name (i := 2) scIN.nd rfl (Or.inl rfl)) pgs_nil))))
      (pss_cons (ps_if (PW.pt (pw_or (pt_not (pt_val (pe_callG (E := fun _ => E0) GI hr hgd rfl T.gIsI T.kIsI bI .nil pass0G (pa_cons (pv 1) pa_nil)))) (pw_or1 (pt_not (pt_val (pe_callG (E := fun _ => E0) GI hr hgd rfl T.gIsI T.kIsI bI .nil pass0G (pa_cons (pv 2) pa_nil))))))) (pss_one (ps_ret pe_bl)) pss_nil)
      (pss_one (ps_ret (pe_and (pe_cmpR op_ge (pv 2) pe_int (nomark _)) (pe_one (pe_cmpR op_eq (pe_callBfun cr_gcd rfl T.gcd (pa_cons (pv 1) (pa_cons (pv 2) pa_nil))) pe_int (nomark _)))))))), ?_⟩
    have ty := dpTy hd
    cases hd with
    | non => exact ⟨_, rfl, _, _, _, _, false, rfl, .ty "tuple", ty, kb "NoneType" "tuple" k_non_tup, _, rfl, iteT (iteT k)⟩
    | bl b => exact ⟨_, rfl, _, _, _, _, false, rfl, .ty "tuple", ty, kb "bool" "tuple" k_bl_tup, _, rfl, iteT (iteT k)⟩
    | int i => exact ⟨_, rfl, _, _, _, _, false, rfl, .ty "tuple", ty, kb "int" "tuple" k_int_tup, _, rfl, iteT (iteT k)⟩
    | str x => exact ⟨_, rfl, _, _, _, _, false, rfl, .ty "tuple", ty, kb "str" "tuple" k_str_tup, _, rfl, iteT (iteT k)⟩
    | lst h1 h2 => exact ⟨_, rfl, _, _, _, _, false, rfl, .ty "tuple", ty, kb "list" "tuple" k_lst_tup, _, rfl, iteT (iteT k)⟩
    | @tup a xs ds h1 h2 =>
      refine ⟨_, rfl, _, _, _, _, true, rfl, .ty "tuple", ty, kb "tuple" "tuple" k_tup_tup, _, rfl, iteF ?_⟩
      have hl := dpAll_len h2
      refine ⟨_, rfl, a, xs, rfl, .inr h1, rfl, _, rfl, ?_⟩
      refine ite2 (fun hc => ?_) (fun hc => ?_)
      · have ne : ds.length ≠ 2 := fun z => by
          rw [hl, z] at hc
          exact absurd hc (by decide)
        rw [isN_not2 ne] at k
        exact k
      · have e2 : ds.length = 2 := by
          rcases Nat.decEq ds.length 2 with z | z
          · refine absurd ?_ hc
            have zz : ¬ ((xs.length : Int) = 2) := by omega
            simp [zz]
          · exact z
        match ds, h2, e2 with
        | [d1, d2], h2, _ =>
          cases h2 with
          | cons g1 h2 =>
            cases h2 with
            | cons g2 h2 =>
              cases h2
              refine ⟨_, rfl, a, _, rfl, h1, rfl, ?_⟩
              refine ⟨_, _, rfl, _, _, rfl, rfl, ?_⟩
              refine ⟨_, rfl, _, d1, rfl, g1, ?_⟩
              refine ⟨_, rfl, ?_⟩
              cases e1 : isI d1 with
              | false =>
                refine iteT (iteT ?_)
                rw [isN_notI (.inl e1)] at k
                exact k
              | true =>
                refine iteF ⟨_, rfl, _, d2, rfl, g2, _, rfl, ?_⟩
                cases e2 : isI d2 with
                | false =>
                  refine iteT ?_
                  rw [isN_notI (.inr e2)] at k
                  exact k
                | true =>
                  refine iteF ?_
                  obtain ⟨i1, rfl⟩ := isI_int e1
                  obtain ⟨i2, rfl⟩ := isI_int e2
                  cases g1
                  cases g2
                  refine ⟨_, rfl, _, _, rfl, rfl, _, rfl, ?_⟩
                  have hk : isN (.tuple [.int i1, .int i2]) = (decide (1 ≤ i2) && decide (((Nat.gcd i1.natAbs i2.natAbs : Nat) : Int) = 1)) := rfl
                  rw [hk] at k
                  refine ite2 (fun hb => ?_) (fun hb => ?_)
                  · refine ⟨_, rfl, _, rfl, i1, i2, rfl, rfl, ?_⟩
                    have e : decide (V.int ((Nat.gcd i1.natAbs i2.natAbs : Nat) : Int) = V.int 1) = decide (((Nat.gcd i1.natAbs i2.natAbs : Nat) : Int) = 1) := by
                      rw [dec_int, Bool.beq_eq_decide_eq]
                    rw [hb, Bool.true_and, ← e] at k
                    exact k
                  · have e : decide ((1 : Int) ≤ i2) = false := by simpa using hb
                    rw [e, Bool.false_and] at k
                    exact k
end
end K4
set_option Elab.async false
set_option linter.all false
set_option maxRecDepth 100000
set_option maxHeartbeats 4000000
namespace K4
open PySem PySem.Spec PyProof.Rows L2 RmX Rm Mth
def spNum (K : PySem.W.Frag) (C : Addr) : Sp := fun vs H Q E => ∃ x y d e, vs = [x, y] ∧ Dp K H x d ∧ Dp K H y e ∧
  (∀ a b, d = .int a → e = .int b → b ≠ 0 → a.natAbs < 2 ^ 8000 ∧ b.natAbs < 2 ^ 8000 ∧ ∀ p, H p = none → Q (.ref p) (upd H p (.tup [.int (nrm a b).1, .int (nrm a b).2]))) ∧
  ((isI d = false ∨ isI e = false ∨ e = .int 0) → Fit (.tuple [d, e]) ∧ ∀ p, H p = none → Bad C (.ref p) (upd H p (.tup [x, y])) E)
theorem same_new {H : Hp} {p : Addr} {o : HO} (n : H p = none) : Same H (upd H p o) := fun b u e => by rw [upd_ne (ne_of_none e n)]; exact e
section
variable {P : Program} {w : World} {K : PySem.W.Frag} {mg : Str → Option Value} {base : Heap} {C fI fNum fIsI fIsN fChk : Addr}
theorem scCh : FnScope ["thing"] ["thing"] (defScope sChk) := ⟨rfl, rfl, rfl, by decide +kernel, rfl, by decide +kernel, by decide +kernel⟩
theorem ok_chk {f : Addr} {fd fdN fdI : FuncData} (F : Fun K "check_number" "check_number" sChk f fd) (T : TxtN P K mg C fI fNum fIsI fIsN fChk) (FN : Fun K "is_number" "is_number" sIsN fIsN fdN) (bN : Binds K fdN ["thing"] []) (FI : Fun K "is_integer" "is_integer" sIsI fIsI fdI) (bI : Binds K fdI ["thing"] []) :
    FnG P w K mg base 3 f fd ["thing"] (spChk K C) := by
  have GN : FnG P w K mg base 2 fIsN fdN ["thing"] (spIsN K) := ok_isN FN T FI bI
  refine okG F scCh (fun vs H Q E h => ?_) (fun cdv A outer s H vs Q E hr hgd h => ?_)
  · obtain ⟨x, d, rfl, _⟩ := h
    rfl
  · obtain ⟨x, d, rfl, hd, k1, k2⟩ := h
    refine ⟨_, pss_one (ps_if (pt_not (pt_val (pe_callG (E := fun _ => E0) GN hr hgd rfl T.gIsN T.kIsN bN .nil pass0G (pa_cons (pv 0) pa_nil))))
      (pss_one (ps_raiseX (X := cxOf (L2.CX P w) P w K mg base ["thing"] "check_number" (defScope sChk) f cdv A outer s H E) rfl base_VE T.ex fn_thing hr hgd T.gC T.sup (takes_of rfl rfl rfl rfl) (pa_cons (pv 0) pa_nil))) pss_nil), ?_⟩
    refine ⟨_, rfl, x, d, rfl, hd, _, rfl, ?_⟩
    cases e : isN d with
    | true => exact iteF (k1 e)
    | false =>
      refine iteT ?_
      exact ⟨_, rfl, x, d, rfl, hd, (k2 e).1, fun dx hdx => (k2 e).2 dx hdx⟩
theorem scNu : FnScope ["above", "below", "shared"] ["above", "below"] (defScope sNum) := ⟨rfl, rfl, rfl, by decide +kernel, rfl, by decide +kernel, by decide +kernel⟩
theorem shr_log {a b : Int} (h : b ≠ 0) (hb : b.natAbs < 2 ^ 8000) : (shr a b).natAbs.log2 < 9000 := by
  have h1 : (shr a b).natAbs < 2 ^ 8000 := by
    rw [shr_abs]
    exact Nat.lt_of_le_of_lt (Nat.gcd_le_right _ (by omega)) hb
  have h2 := PySem.Flt.log2_lt_of (show 0 < 8000 by decide) h1
  omega
theorem okGD {x qual : Str} {params : Arguments} {body : List Stmt} {scope : Scope} {dvs : List V} {kws : List (Str × V)} {f : Addr} {fd : FuncData} {N ps : List Str} {k : Nat} {sp : Sp} (F : FunD K x qual params body scope dvs kws f fd) (S : FnScope N ps scope) (len : ∀ vs H Q E, sp vs H Q E → vs.length = ps.length)
    (hbody : ∀ (cdv : Value) (A : Around) (outer : List Env) (s : Shared) (H : Hp) (vs : List V) (Q : VK) (E : XK), Room k (A.deeper (envOfC qual scope s.heap.objs.size f cdv)) → A.guards = some [] → sp vs H Q E →
      ∃ t, PSs (cxOf (L2.CX P w) P w K mg base N qual scope f cdv A outer s H E) body t ∧ t { nx := fun _ H' => Q .non H', rt := Q } (start N vs) H) : FnG P w K mg base (k + 1) f fd ps sp := by
  obtain ⟨oc, od, dV, kV, doc, pm, an, cdv, ct, osl, rfl, lk, hcd, _, _⟩ := F.ex
  exact fn_ofG lk hcd S len fun A outer s H vs Q E hr hg hsp => hbody cdv A outer s H vs Q E hr hg hsp
theorem ok_num {f : Addr} {fd fdI : FuncData} (F : FunD K "number" "number" (defArgs sNum) (defBody sNum) (defScope sNum) [.int 1] [] f fd) (T : TxtN P K mg C fI fNum fIsI fIsN fChk) (FI : Fun K "is_integer" "is_integer" sIsI fIsI fdI) (bI : Binds K fdI ["thing"] []) :
    FnG P w K mg base 2 f fd ["above", "below"] (spNum K C) := by
  have GI : FnG P w K mg base 1 fIsI fdI ["thing"] (spIsI K) := ok_isI FI T
  refine okGD F scNu (fun vs H Q E h => ?_) (fun cdv A outer s H vs Q E hr hgd h => ?_)
  · obtain ⟨x, y, d, e, rfl, _⟩ := h
    rfl
  · obtain ⟨x, y, d, e, rfl, hx, hy, k1, k2⟩ := h
    refine ⟨_, pss_cons (ps_if (PW.pt (pw_or (pt_not (pt_val (pe_callG (E := fun _ => E0) GI hr hgd rfl T.gIsI T.kIsI bI .nil pass0G (pa_cons (pv 0) pa_nil)))) (pw_or (pt_not (pt_val (pe_callG (E := fun _ => E0) GI hr hgd rfl T.gIsI T.kIsI bI .nil pass0G (pa_cons (pv 1) pa_nil)))) (pw_or1 (pt_cmpR op_eq (pv 1) pe_int (nomark _))))))
        (pss_one (ps_raiseX (X := cxOf (L2.CX P w) P w K mg base ["above", "below", "shared"] "number" (defScope sNum) f cdv A outer s H E) rfl base_VE T.ex fn_thing hr hgd T.gC T.sup (takes_of rfl rfl rfl rfl) (pa_cons (pe_tup (pa_cons (pv 0) (pa_cons (pv 1) pa_nil))) pa_nil))) pss_nil)
      (pss_cons (ps_set (i := 2) scNu.nd rfl (Or.inl rfl) (pe_callBfun cr_gcd rfl T.gcd (pa_cons (pv 0) (pa_cons (pv 1) pa_nil))))
      (pss_cons (ps_if (pt_cmpR op_lt (pv 1) pe_int (nomark _)) (pss_one (ps_set (i := 2) scNu.nd rfl (Or.inl rfl) (pe_un un_neg (pv 2)))) pss_nil)
      (pss_one (ps_ret (pe_tup (pa_cons (pe_op op_fdivZ (pv 0) (pv 2)) (pa_cons (pe_op op_fdivZ (pv 1) (pv 2)) pa_nil))))))), ?_⟩
    have bad : (isI d = false ∨ isI e = false ∨ e = .int 0) → tRaiseX K C (Str.ofString "thing") (fun cls d _ H => E cls d H) (tCons (tTup (tCons (tVar 0) (tCons (tVar 1) tNil))) tNil) { nx := fun _ H' => Q .non H', rt := Q } (start ["above", "below", "shared"] [x, y]) H := fun hb => by
      refine ⟨_, rfl, _, rfl, by rw [sizeLine_eq]; show 2 ≤ 16777216; decide, fun p np => ?_⟩
      exact ⟨.ref p, _, rfl, .tup (SqT.of upd_same) (.cons (dp_same (same_new np) hx) (.cons (dp_same (same_new np) hy) .nil)), (k2 hb).1, fun dx hdx => (k2 hb).2 p np dx hdx⟩
    refine ⟨_, rfl, x, d, rfl, hx, _, rfl, ?_⟩
    cases e1 : isI d with
    | false => exact iteT (iteT (bad (.inl e1)))
    | true =>
      refine iteF ⟨_, rfl, y, e, rfl, hy, _, rfl, ?_⟩
      cases e2 : isI e with
      | false => exact iteT (iteT (bad (.inr (.inl e2))))
      | true =>
        obtain ⟨a, rfl⟩ := isI_int e1
        obtain ⟨b, rfl⟩ := isI_int e2
        cases hx
        cases hy
        refine iteF ⟨_, rfl, rfl, _, rfl, ?_⟩
        refine ite2 (fun hb => ?_) (fun hb => ?_)
        · have z : b = 0 := by
            have := of_decide_eq_true hb
            injection this
          subst z
          exact bad (.inr (.inr rfl))
        · have hb0 : b ≠ 0 := fun z => hb (by rw [z]; exact decide_eq_true rfl)
          obtain ⟨s1, s2, kq⟩ := k1 a b rfl rfl hb0
          refine ⟨_, rfl, _, rfl, a, b, rfl, _, rfl, _, _, rfl, rfl, _, rfl, ?_⟩
          refine ite2 (fun hn => ?_) (fun hn => ?_)
          · have hlt : b < 0 := of_decide_eq_true hn
            have es : shr a b = -((Nat.gcd a.natAbs b.natAbs : Nat) : Int) := if_pos hlt
            refine ⟨_, rfl, _, rfl, ?_⟩
            have h1 := shr_ne (a := a) hb0
            have h2 := shr_log (a := a) hb0 s2
            rw [es] at h1 h2
            refine ⟨_, rfl, _, rfl, _, _, rfl, rfl, ⟨h1, h2⟩, _, rfl, _, rfl, _, _, rfl, rfl, ⟨h1, h2⟩, by rw [sizeLine_eq]; show 2 ≤ 16777216; decide, fun p np => ?_⟩
            have q := kq p np
            unfold nrm at q
            rw [es] at q
            exact q
          · have hlt : ¬ b < 0 := fun z => hn (decide_eq_true z)
            have es : shr a b = ((Nat.gcd a.natAbs b.natAbs : Nat) : Int) := if_neg hlt
            have h1 := shr_ne (a := a) hb0
            have h2 := shr_log (a := a) hb0 s2
            rw [es] at h1 h2
            refine ⟨_, rfl, _, rfl, _, _, rfl, rfl, ⟨h1, h2⟩, _, rfl, _, rfl, _, _, rfl, rfl, ⟨h1, h2⟩, by rw [sizeLine_eq]; show 2 ≤ 16777216; decide, fun p np => ?_⟩
            have q := kq p np
            unfold nrm at q
            rw [es] at q
            exact q
/-! ### the arithmetic -/
theorem isN_iff {d : PyData} (h : isN d = true) : ∃ a b, d = .tuple [.int a, .int b] ∧ isNum a b := by
  unfold isN at h
  split at h
  · rename_i a b
    simp only [Bool.and_eq_true, decide_eq_true_eq] at h
    exact ⟨a, b, rfl, h.1, by omega⟩
  · cases h
theorem isN_of {a b : Int} (h : isNum a b) : isN (.tuple [.int a, .int b]) = true := by
  have hk : isN (.tuple [.int a, .int b]) = (decide (1 ≤ b) && decide (((Nat.gcd a.natAbs b.natAbs : Nat) : Int) = 1)) := rfl
  rw [hk, decide_eq_true h.1, Bool.true_and]
  exact decide_eq_true (by rw [h.2]; rfl)
theorem dp_num {H : Hp} {x : V} {a b : Int} (h : Dp K H x (.tuple [.int a, .int b])) : ∃ p, x = .ref p ∧ SqT K H p [.int a, .int b] := by
  cases h with
  | tup h1 h2 =>
    cases h2 with
    | cons g1 h2 => cases h2 with
      | cons g2 h2 => cases h2; cases g1; cases g2; exact ⟨_, rfl, h1⟩
theorem dp_mk {H : Hp} {p : Addr} {a b : Int} (h : SqT K H p [.int a, .int b]) : Dp K H (.ref p) (.tuple [.int a, .int b]) := .tup h (.cons (.int a) (.cons (.int b) .nil))
def spBin (K : PySem.W.Frag) (C : Addr) (tp bt : Int → Int → Int → Int → Int) : Sp := fun vs H Q E => ∃ x y d e, vs = [x, y] ∧ Dp K H x d ∧ Dp K H y e ∧
  (isN d = false → Fit d ∧ Bad C x H E) ∧ (isN d = true → isN e = false → Fit e ∧ Bad C y H E) ∧
  (∀ a b c g, d = .tuple [.int a, .int b] → e = .tuple [.int c, .int g] → isNum a b → isNum c g → a.natAbs < 2 ^ 3000 ∧ b.natAbs < 2 ^ 3000 ∧ c.natAbs < 2 ^ 3000 ∧ g.natAbs < 2 ^ 3000 ∧
    ∀ p, H p = none → Q (.ref p) (upd H p (.tup [.int (nrm (tp a b c g) (bt a b c g)).1, .int (nrm (tp a b c g) (bt a b c g)).2])))
structure DefN (K : PySem.W.Frag) (fNum fIsI fIsN fChk : Addr) (fdNum fdIsI fdIsN fdChk : FuncData) : Prop where
  num : FunD K "number" "number" (defArgs sNum) (defBody sNum) (defScope sNum) [.int 1] [] fNum fdNum
  isi : Fun K "is_integer" "is_integer" sIsI fIsI fdIsI
  isn : Fun K "is_number" "is_number" sIsN fIsN fdIsN
  chk : Fun K "check_number" "check_number" sChk fChk fdChk
  bNum : Binds K fdNum ["above", "below"] []
  bIsI : Binds K fdIsI ["thing"] []
  bIsN : Binds K fdIsN ["thing"] []
  bChk : Binds K fdChk ["thing"] []
variable {fdNum fdIsI fdIsN fdChk : FuncData}
theorem wmul {i j : Int} (hi : i.natAbs < 2 ^ 3000) (hj : j.natAbs < 2 ^ 3000) : CMulW i j := wide_mul hi hj (by decide) (by decide) (by decide)
theorem wlt {i j : Int} (hi : i.natAbs < 2 ^ 3000) (hj : j.natAbs < 2 ^ 3000) : (i * j).natAbs < 2 ^ 6000 := wide_lt hi hj
theorem pos_mul {a b c g : Int} (h : isNum a b) (h' : isNum c g) : b * g ≠ 0 := by
  have := Int.mul_pos (show 0 < b by have := h.1; omega) (show 0 < g by have := h'.1; omega)
  omega
end
end K4
set_option Elab.async false
set_option linter.all false
set_option maxRecDepth 100000
set_option maxHeartbeats 4000000
namespace K4
open PySem PySem.Spec PyProof.Rows L2 RmX Rm Mth
section
variable {P : Program} {w : World} {K : PySem.W.Frag} {mg : Str → Option Value} {base : Heap} {C fI fNum fIsI fIsN fChk : Addr} {fdNum fdIsI fdIsN fdChk : FuncData}
theorem scMu : FnScope ["first", "second"] ["first", "second"] (defScope sMul) := ⟨rfl, rfl, rfl, by decide +kernel, rfl, by decide +kernel, by decide +kernel⟩
theorem ok_mul {f : Addr} {fd : FuncData} (F : Fun K "multiply" "multiply" sMul f fd) (T : TxtN P K mg C fI fNum fIsI fIsN fChk) (D : DefN K fNum fIsI fIsN fChk fdNum fdIsI fdIsN fdChk) :
    FnG P w K mg base 4 f fd ["first", "second"] (spBin K C (fun a b c g => a * c) (fun a b c g => b * g)) := by
  have GC : FnG P w K mg base 3 fChk fdChk ["thing"] (spChk K C) := ok_chk D.chk T D.isn D.bIsN D.isi D.bIsI
  have GN : FnG P w K mg base 2 fNum fdNum ["above", "below"] (spNum K C) := ok_num D.num T D.isi D.bIsI
  refine okG F scMu (fun vs H Q E h => ?_) (fun cdv A outer s H vs Q E hr hgd h => ?_)
  · obtain ⟨x, y, d, e, rfl, _⟩ := h
    rfl
  · obtain ⟨x, y, d, e, rfl, hx, hy, k1, k2, k3⟩ := h
    have hr2 := hr.mono (show 2 ≤ 3 by decide)
    have tk : Takes (cxOf (L2.CX P w) P w K mg base ["first", "second"] "multiply" (defScope sMul) f cdv A outer s H E) (fun cls d _ H => E cls d H) := takes_of rfl rfl rfl rfl
    refine ⟨_, pss_cons (ps_expr (pe_callG (E := WE (fun cls d _ H => E cls d H)) GC hr hgd rfl T.gChk T.kChk D.bChk .nil (fun σ => passAt tk σ) (pa_cons (pv 0) pa_nil)))
      (pss_cons (ps_expr (pe_callG (E := WE (fun cls d _ H => E cls d H)) GC hr hgd rfl T.gChk T.kChk D.bChk .nil (fun σ => passAt tk σ) (pa_cons (pv 1) pa_nil)))
      (pss_one (ps_ret (pe_callG (E := fun _ => E0) GN hr2 hgd rfl T.gNum T.kNum D.bNum .nil pass0G (pa_cons
        (pe_op op_mulW (pe_ix ix_tup (pv 0) pe_int (fun _ _ => rfl)) (pe_ix ix_tup (pv 1) pe_int (fun _ _ => rfl)))
        (pa_cons (pe_op op_mulW (pe_ix ix_tup (pv 0) pe_int (fun _ _ => rfl)) (pe_ix ix_tup (pv 1) pe_int (fun _ _ => rfl))) pa_nil)))))), ?_⟩
    refine ⟨_, rfl, x, d, rfl, hx, fun h1 => ?_, k1⟩
    refine ⟨_, rfl, y, e, rfl, hy, fun h2 => ?_, k2 h1⟩
    obtain ⟨a, b, rfl, nab⟩ := isN_iff h1
    obtain ⟨c, g, rfl, ncg⟩ := isN_iff h2
    obtain ⟨p, rfl, hp⟩ := dp_num hx
    obtain ⟨q, rfl, hq⟩ := dp_num hy
    obtain ⟨za, zb, zc, zg, kq⟩ := k3 a b c g rfl rfl nab ncg
    refine ⟨_, rfl, p, _, _, _, rfl, rfl, hp, rfl, _, rfl, q, _, _, _, rfl, rfl, hq, rfl, _, _, rfl, rfl, wmul za zc,
      _, rfl, p, _, _, _, rfl, rfl, hp, rfl, _, rfl, q, _, _, _, rfl, rfl, hq, rfl, _, _, rfl, rfl, wmul zb zg, ?_⟩
    refine ⟨_, _, _, _, rfl, .int _, .int _, fun a' b' e1 e2 hb => ?_, fun hbad => ?_⟩
    · injection e1 with e1
      injection e2 with e2
      subst e1 e2
      have s1 := wlt za zc
      have s3 := wlt zb zg
      exact ⟨by omega, by omega, kq⟩
    · rcases hbad with z | z | z
      · cases z
      · cases z
      · injection z with z
        exact absurd z (pos_mul nab ncg)
def spDiv (K : PySem.W.Frag) (C : Addr) : Sp := fun vs H Q E => ∃ x y d e, vs = [x, y] ∧ Dp K H x d ∧ Dp K H y e ∧
  (isN d = false → Fit d ∧ Bad C x H E) ∧ (isN d = true → isN e = false → Fit e ∧ Bad C y H E) ∧
  (∀ a b c g, d = .tuple [.int a, .int b] → e = .tuple [.int c, .int g] → isNum a b → isNum c g → (c = 0 → Fit e ∧ Bad C y H E) ∧ (c ≠ 0 → a.natAbs < 2 ^ 3000 ∧ b.natAbs < 2 ^ 3000 ∧ c.natAbs < 2 ^ 3000 ∧ g.natAbs < 2 ^ 3000 ∧
    ∀ p, H p = none → Q (.ref p) (upd H p (.tup [.int (nrm (a * g) (b * c)).1, .int (nrm (a * g) (b * c)).2]))))
theorem scDi : FnScope ["first", "second"] ["first", "second"] (defScope sDiv) := ⟨rfl, rfl, rfl, by decide +kernel, rfl, by decide +kernel, by decide +kernel⟩
theorem ok_div {f : Addr} {fd : FuncData} (F : Fun K "divide" "divide" sDiv f fd) (T : TxtN P K mg C fI fNum fIsI fIsN fChk) (D : DefN K fNum fIsI fIsN fChk fdNum fdIsI fdIsN fdChk) :
    FnG P w K mg base 4 f fd ["first", "second"] (spDiv K C) := by
  have GC : FnG P w K mg base 3 fChk fdChk ["thing"] (spChk K C) := ok_chk D.chk T D.isn D.bIsN D.isi D.bIsI
  have GN : FnG P w K mg base 2 fNum fdNum ["above", "below"] (spNum K C) := ok_num D.num T D.isi D.bIsI
  refine okG F scDi (fun vs H Q E h => ?_) (fun cdv A outer s H vs Q E hr hgd h => ?_)
  · obtain ⟨x, y, d, e, rfl, _⟩ := h
    rfl
  · obtain ⟨x, y, d, e, rfl, hx, hy, k1, k2, k3⟩ := h
    have hr2 := hr.mono (show 2 ≤ 3 by decide)
    have tk : Takes (cxOf (L2.CX P w) P w K mg base ["first", "second"] "divide" (defScope sDiv) f cdv A outer s H E) (fun cls d _ H => E cls d H) := takes_of rfl rfl rfl rfl
    refine ⟨_, pss_cons (ps_expr (pe_callG (E := WE (fun cls d _ H => E cls d H)) GC hr hgd rfl T.gChk T.kChk D.bChk .nil (fun σ => passAt tk σ) (pa_cons (pv 0) pa_nil)))
      (pss_cons (ps_expr (pe_callG (E := WE (fun cls d _ H => E cls d H)) GC hr hgd rfl T.gChk T.kChk D.bChk .nil (fun σ => passAt tk σ) (pa_cons (pv 1) pa_nil)))
      (pss_cons (ps_if (pt_cmpR op_eq (pe_ix ix_tup (pv 1) pe_int (fun _ _ => rfl)) pe_int (nomark _)) (pss_one (ps_raiseX (X := cxOf (L2.CX P w) P w K mg base ["first", "second"] "divide" (defScope sDiv) f cdv A outer s H E) rfl base_VE T.ex fn_thing hr hgd T.gC T.sup tk (pa_cons (pv 1) pa_nil))) pss_nil)
      (pss_one (ps_ret (pe_callG (E := fun _ => E0) GN hr2 hgd rfl T.gNum T.kNum D.bNum .nil pass0G (pa_cons
        (pe_op op_mulW (pe_ix ix_tup (pv 0) pe_int (fun _ _ => rfl)) (pe_ix ix_tup (pv 1) pe_int (fun _ _ => rfl)))
        (pa_cons (pe_op op_mulW (pe_ix ix_tup (pv 0) pe_int (fun _ _ => rfl)) (pe_ix ix_tup (pv 1) pe_int (fun _ _ => rfl))) pa_nil))))))), ?_⟩
    refine ⟨_, rfl, x, d, rfl, hx, fun h1 => ?_, k1⟩
    refine ⟨_, rfl, y, e, rfl, hy, fun h2 => ?_, k2 h1⟩
    obtain ⟨a, b, rfl, nab⟩ := isN_iff h1
    obtain ⟨c, g, rfl, ncg⟩ := isN_iff h2
    have hy' := hy
    obtain ⟨p, rfl, hp⟩ := dp_num hx
    obtain ⟨q, rfl, hq⟩ := dp_num hy
    obtain ⟨k4, k5⟩ := k3 a b c g rfl rfl nab ncg
    refine ⟨_, rfl, q, _, _, _, rfl, rfl, hq, rfl, rfl, _, rfl, ?_⟩
    refine ite2 (fun hc => ?_) (fun hc => ?_)
    · have z : c = 0 := by
        have := of_decide_eq_true hc
        injection this
      obtain ⟨k6, k7⟩ := k4 z
      exact ⟨_, rfl, _, _, rfl, hy', k6, fun dx hdx => k7 dx hdx⟩
    · have hc0 : c ≠ 0 := fun z => hc (by rw [z]; exact decide_eq_true rfl)
      obtain ⟨za, zb, zc, zg, kq⟩ := k5 hc0
      refine ⟨_, rfl, p, _, _, _, rfl, rfl, hp, rfl, _, rfl, q, _, _, _, rfl, rfl, hq, rfl, _, _, rfl, rfl, wmul za zg,
        _, rfl, p, _, _, _, rfl, rfl, hp, rfl, _, rfl, q, _, _, _, rfl, rfl, hq, rfl, _, _, rfl, rfl, wmul zb zc, ?_⟩
      refine ⟨_, _, _, _, rfl, .int _, .int _, fun a' b' e1 e2 hb => ?_, fun hbad => ?_⟩
      · injection e1 with e1
        injection e2 with e2
        subst e1 e2
        have s1 := wlt za zg
        have s3 := wlt zb zc
        exact ⟨by omega, by omega, kq⟩
      · rcases hbad with z | z | z
        · cases z
        · cases z
        · injection z with z
          rcases Int.mul_eq_zero.mp z with z | z
          · exact absurd nab.1 (by omega)
          · exact absurd z hc0
end
end K4
set_option Elab.async false
set_option linter.all false
set_option maxRecDepth 100000
set_option maxHeartbeats 4000000
/-! # The law is called where nothing is being shown -/
namespace Rm
open PySem PySem.Spec PyProof.Rows L2 RmX
section
variable {P : Program} {w : World} {K : PySem.W.Frag} {mg mb : Str → Option Value} {k : Nat} {fa a : Addr} {fd : FuncData} {x : Str} {sp : Sp} {t : Shared} {cells : List Value} {ns : List Int}
/-- how the law ends -/
abbrev Fin1 (t : Shared) : Result → Shared → Prop := fun r t' => r = .ok (.ret (.bool true)) ∧ OldK t.heap t'.heap ∧ t'.os = t.os ∧ AllBare t'.gens
/-- a view of the heap: the script alone may be tracked -/
structure View (P : Program) (w : World) (K : PySem.W.Frag) (t : Shared) (a : Addr) (xs : List V) (T : Hp) : Prop where
  only : Only T
  list : SqL K T a xs
  holds : HOk P w T t.heap
  at_a : ∀ b, T b ≠ none → b = a
  out : T a ≠ none → K.lookup a = none
theorem lawG_view {T : Hp} (kin : K.In t.heap) (gl : t.heap.Ns mainGlobals mg) (bl : t.heap.Ns builtinsNs mb) (bb : ∀ y : Str, y ≠ "__name__" → mb y = bootBuiltins y) (nol : t.heap.NoLimit) (gens : t.gens = #[])
    (obj : t.heap.get? a = some { cls := .type "list", data := .seq cells.toArray }) (rm : Room k callerA)
    (promise : ∀ base : Heap, K.In base → base.Ns mainGlobals mg → FnG P w K mg base k fa fd [x] sp) (bnd : ∀ (s : Shared) (u : Value), BindsTo s fd ⟨[u], []⟩ [(x, u)])
    (V1 : View P w K t a (ns.map V.int) T) (kept : sp [.ref a] T (fun v _ => v = .bl true) fun _ _ _ => False) :
    codeAny (model P w) callerA (.call (.ref fa) ⟨[.ref a], []⟩) (Fin1 t) t := by
  -- dicts are not tracked
  have untr : ∀ {b : Addr} {o : Obj} {es : Array DictEntry} {ep : Nat}, t.heap.get? b = some o → o.data = .dict es ep → T b = none := by
    intro b o es ep e d
    rcases hq : T b with _ | u
    · rfl
    · exfalso
      have eb := V1.at_a b (by rw [hq]; exact fun z => nomatch z)
      rw [eb, obj] at e
      cases e
      exact nomatch d
  have space : ∀ {b : Addr} {m : Str → Option Value}, t.heap.Ns b m → (hidT t.heap T).Ns b m := by
    rintro b m ⟨o, es, ep, e, d, r⟩
    exact ⟨o, es, ep, hidT_get e (untr e d), d, r⟩
  have kbase : K.In (hidT t.heap T) := by
    intro b o e
    refine hidT_get (kin b o e) ?_
    rcases hq : T b with _ | u
    · rfl
    · exfalso
      have eb := V1.at_a b (by rw [hq]; exact fun z => nomatch z)
      rw [eb, V1.out (by rw [← eb, hq]; exact fun z => nomatch z)] at e
      cases e
  have nolim : (hidT t.heap T).NoLimit := by
    obtain ⟨mc, l1, l2⟩ := nol
    exact ⟨mc, space l1, l2⟩
  have modu : Mod K mg (hidT t.heap T) := ⟨kbase, space gl, ⟨mb, space bl, bb⟩, nolim⟩
  have enter : Env0 P w K mg (hidT t.heap T) callerA [] t T :=
    ⟨rfl, modu, fun b o => of_hidT, Nat.le_of_eq (hidT_size _ _), trivial, (fun b z => nomatch z), V1.holds, .of_eq gens⟩
  have ran := (promise _ kbase (space gl)).run callerA [] t T ⟨[.ref a], []⟩ [.ref a] [.ref a] _ _ rm rfl enter (bnd t (.ref a)) (.cons rfl .nil) kept
  refine codeAny_mono ran ?_
  rintro (e | fl) t' h
  · obtain ⟨_, _, _, _, _, _, _, _, _, _, _, _, z⟩ := h
    exact z.elim
  · cases fl with
    | ret u =>
      obtain ⟨v, T', hos, hb, un, ok', rv, ev⟩ := h
      have ev : v = .bl true := ev
      rw [ev] at rv
      have eu : u = Value.bool true := rv
      rw [eu]
      refine ⟨rfl, OldK.of_keep ?_, hos, hb⟩
      intro b o e
      rcases hq : T b with _ | u
      · exact un.keep b o e hq (fun z => nomatch z) (fun z => nomatch z)
      · rcases V1.only b with z | ⟨ob, xs, z⟩
        · rw [hq] at z
          cases z
        · have e1 := (V1.holds b _ z).1
          have e2 := (ok' b _ (un.frzs b ob _ z)).1
          rw [e] at e1
          cases e1
          exact e2
    | next => exact h.elim
    | brk => exact h.elim
    | cont => exact h.elim
theorem lawG_call (kin : K.In t.heap) (gl : t.heap.Ns mainGlobals mg) (bl : t.heap.Ns builtinsNs mb) (bb : ∀ y : Str, y ≠ "__name__" → mb y = bootBuiltins y) (nol : t.heap.NoLimit) (gens : t.gens = #[])
    (obj : t.heap.get? a = some { cls := .type "list", data := .seq cells.toArray }) (whole : IntsAre cells ns) (len : ns.length ≤ sizeLine) (rm : Room k callerA)
    (promise : ∀ base : Heap, K.In base → base.Ns mainGlobals mg → FnG P w K mg base k fa fd [x] sp) (bnd : ∀ (s : Shared) (u : Value), BindsTo s fd ⟨[u], []⟩ [(x, u)])
    (kept : ∀ T : Hp, Only T → SqL K T a (ns.map V.int) → sp [.ref a] T (fun v _ => v = .bl true) fun _ _ _ => False) :
    codeAny (model P w) callerA (.call (.ref fa) ⟨[.ref a], []⟩) (Fin1 t) t := by
  have rel : Vals (ns.map V.int) cells := L2.vals_ints whole
  have cnt : cells.length = ns.length := whole.length
  rcases hl : K.lookup a with _ | o
  · -- the script is new: it is tracked, frozen
    let fz : HO := .frz { cls := .type "list", data := .seq cells.toArray } (.lst (ns.map V.int))
    have at1 : ∀ b, (if b = a then some fz else none) = none ∨ b = a := by
      intro b
      by_cases h : b = a
      · exact .inr h
      · exact .inl (if_neg h)
    have VW : View P w K t a (ns.map V.int) (fun b => if b = a then some fz else none) := by
      refine ⟨?_, .inl (.inr ⟨_, if_pos rfl⟩), ?_, ?_, fun _ => hl⟩
      · intro b
        by_cases h : b = a
        · exact .inr ⟨_, _, if_pos h⟩
        · exact .inl (if_neg h)
      · intro b u e
        rcases at1 b with z | z
        · rw [show (if b = a then some fz else none) = some u from e] at z
          cases z
        · subst z
          cases (if_pos rfl).symm.trans e
          exact ⟨obj, by rw [List.length_map]; exact len, cells, _, rel, obj⟩
      · intro b z
        rcases at1 b with h | h
        · exact absurd h z
        · exact h
    exact lawG_view kin gl bl bb nol gens obj rm promise bnd VW (kept _ VW.only VW.list)
  · -- the script is the module's own
    have e := kin a o hl
    rw [obj] at e
    cases e
    have VW : View P w K t a (ns.map V.int) (fun _ => none) := by
      refine ⟨fun _ => .inl rfl, .inr ⟨_, cells.toArray, _, hl, rfl, rfl, rfl, ?_, by simpa using rel⟩, (fun b u z => nomatch z), fun b z => absurd rfl z, fun z => absurd rfl z⟩
      rw [List.size_toArray, cnt]
      exact len
    exact lawG_view kin gl bl bb nol gens obj rm promise bnd VW (kept _ VW.only VW.list)
end
/-- the goal that the head leaves, from the law's promise -/
theorem walk_ofG {l : PySem.W.OpenLaw} {n k : Nat} {q : Program} {loose : List Str} {XP : (Str → Option Value) → Heap → Prop} {YP : World → Heap → Prop} {d : DefRec} {K : Params → PySem.W.Frag} {sp : PySem.W.Frag → Sp} {x : Str}
    (most : l.most = some n) (fits : n ≤ sizeLine) (nodef : d.params.defaults = []) (rm : Room k callerA) (own : ∀ (w : World) (h : Heap), YP w h → (K w.params).In h)
    (F : ∀ (w : World) (mg : Str → Option Value) (fa : Addr) (h : Heap), (K w.params).In h → h.Ns mainGlobals mg → mg d.name = some (.ref fa) →
      ∃ fd : FuncData, (∀ (s : Shared) (u : Value), BindsTo s fd ⟨[u], []⟩ [(x, u)]) ∧ ∀ base : Heap, (K w.params).In base → base.Ns mainGlobals mg → FnG l.prog w (K w.params) mg base k fa fd [x] (sp (K w.params)))
    (kept : ∀ (K : PySem.W.Frag) (T : Hp) (a : Addr) (ns : List Int), ns.length ≤ n → SqL K T a (ns.map V.int) → sp K [.ref a] T (fun v _ => v = .bl true) fun _ _ _ => False) :
    PySem.W.WalkO q loose XP YP l.row.toRowW d [] (fun f vs => PySem.call f vs) := by
  refine Att.attach_call most nodef ?_
  intro w s₀ t mg mb fa o pm cd doc a cells ns G Y ho hd hcd hmg hobj hints hlen hg
  obtain ⟨fd, bnd, promise⟩ := F w mg fa _ (own w _ Y) G.T.g hmg
  exact lawG_call (own w _ Y) G.T.g G.T.b G.T.builtins G.T.nolimit hg hobj hints (Nat.le_trans hlen fits) rm promise bnd fun T _ hS => kept _ T a ns hlen hS
end Rm
set_option Elab.async false
set_option linter.all false
set_option maxRecDepth 100000
set_option maxHeartbeats 4000000
/-! # An own exception that is made, not raised; isinstance of a kept one by a tuple; how often a flag stands in a list -/
namespace Rm
open PySem PySem.Spec PyProof.Rows L2 RmX
/-- C(e) as a value: the new exception, its dict with F -/
def tMkE (K : PySem.W.Frag) (C : Addr) (F : Str) (ta : TA) : TE := fun σ H Q => ta σ H fun vs H1 => ∃ v d, vs = [v] ∧ Dp K H1 v d ∧ Fit d ∧ ∀ a dx, H1 dx = none → H1 a = none → dx ≠ a → Q (.ref a) (upd (upd H1 dx (.xd [(F, v)])) a (exv a C dx))
section
variable {X : Cx} {C fI : Addr} {F : Str} {B newId initId : String} {bmB : List Value} {a : Expr} {ta : TA} {x : Str} {p pos : Pos} {k : Nat}
theorem pe_mkx (FB : BaseX B newId initId bmB) (T : ExT X.prog X.K X.mg C fI F B newId initId bmB) (N : FName F) (hr : Room k X.A) (hgd : X.A.guards = some []) (hex : X.ex = []) (hg : Gl X x) (gC : X.mg x = some (.ref C)) (hsu : X.mg "super" = none) (ha : PA X [a] ta)
    (hdb : (x == ("__debug__" : Str)) = false := by decide)
    (he : starEach (a :: []) X.env = (false, eval a X.env) :: starEach [] X.env := by rfl) (hpl : (backTo pos (starEach [] X.env)).any (·.1) = false := by rfl) :
    PE X (.Call (.Name x p) [a] [] pos) (tMkE X.K C F ta) := by
  refine ⟨fun pins s σ H Q I h => ?_⟩
  refine wpAny_Call_Name_kw (ld_glob I hg gC ?_ hdb)
  refine PySem.W.callWith_K (h₀ := X.base) I.ok.mod.kin T.kC (thn (ha.run pos pins s σ H _ I h) fun us s1 hh => ?_) he hpl
  obtain ⟨vs, H1, I1, r1, v, d, ev, hd, hf, q1⟩ := hh
  subst ev
  refine ⟨I1.kIn, ?_⟩
  cases r1 with
  | cons rv rn =>
    rename_i v' us'
    cases rn
    show wpAny _ _ (call (.ref C) [v']) _ _ _
    have hlim := I1.nolimit
    obtain ⟨as, rd⟩ := Dp.reads I1 d v v' hd rv
    have hun := hr.un
    have hdp := hr.dp
    obtain ⟨mb, hb1, hb2⟩ := I1.mod.blt
    obtain ⟨hp, g, dr, tk, os⟩ := s1
    refine wpAny_call (exc_made FB T N I1.kIn hlim (I1.mod.glob.keeps I1.bk) hsu (hb1.keeps I1.bk) ((hb2 _ (by decide)).trans (by decide +kernel)) (by omega) (fun D hD hDu => shown_of (hD.trans hgd) (by omega) rd hf) fun h' tk' e d M => ?_)
    show EP X pins σ Q (.ref e) ⟨h', g, dr, tk', os⟩
    obtain ⟨t1, hoe⟩ := M.obj
    have hns := M.ns
    have ob : ObjOk X.prog X.w (upd H1 d (.xd [(F, v)])) h' d (.xd [(F, v)]) := ⟨_, hns, fun f => relO_one rv f⟩
    have J : Inv X pins σ (upd H1 d (.xd [(F, v)])) ⟨h', g, dr, tk', os⟩ := I1.laid (t' := tk') M.keep M.dbig ob
    have ne : H1 e = none := I1.hok.fresh M.new
    have nd : H1 d = none := I1.hok.fresh M.dbig
    have old : ∀ b o, hp.get? b = some o → b ≠ e := fun b o q => Nat.ne_of_lt (Nat.lt_of_lt_of_le (Heap.lt_size q) M.new)
    have W : Inv X pins σ (upd (upd H1 d (.xd [(F, v)])) e (exv e C d)) ⟨h', g, dr, tk', os⟩ := by
      refine track J ?_ ?_ ?_ ?_ ?_ (exv_ok hoe rfl rfl rfl)
      · rw [upd_ne (Ne.symm M.dne)]
        exact ne
      · obtain ⟨m, ⟨oL, es, ep, e1, _⟩, _⟩ := I1.loc
        exact (old _ _ e1).symm
      · intro y c hy
        obtain ⟨v, o, ho, _⟩ := I1.cell y c hy
        exact old _ _ ho
      · intro q hq
        exact old _ _ (I1.pin q hq).1
      · cases e0 : X.s_0.heap.get? e with
        | none => rfl
        | some o =>
          obtain ⟨o', q⟩ := I1.base.there e o e0 (by rw [hex]; exact fun z => nomatch z)
          exact absurd rfl (old _ _ q)
    exact ⟨.ref e, _, W, rfl, q1 e d nd ne M.dne⟩
end
/-- isinstance(e, (c1, c2, ..)), e a kept exception -/
def rIsXT (P : Program) (K : PySem.W.Frag) (mg : Str → Option Value) : List V → Hp → VK → Prop := fun xs H Q => ∃ (a C dx fI : Addr) (F : Str) (B newId initId : String) (bmB : List Value) (tp : Addr) (cs : List V) (us : List Value) (b : Bool), xs = [.ref a, .ref tp] ∧ ExT P K mg C fI F B newId initId bmB ∧ H a = some (exv a C dx) ∧ (∃ fs, H dx = some (.xd fs)) ∧ H tp = some (.tup cs) ∧ Paired ClsV cs us ∧ PySem.W.kitAny K (.ref C) us = some b ∧ Q (.bl b) H
theorem call_isXT {X : Cx} : CallR X (.builtin "isinstance") (rIsXT X.prog X.K X.mg) := by
  intro pins s σ H xs us Q I r h
  obtain ⟨a, C, dx, fI, F, B, newId, initId, bmB, tp, cs, ws, b, rfl, T, ea, ⟨fs, ed⟩, hT, k, e, q⟩ := h
  obtain ⟨u1, u2, rfl, r1, r2⟩ := vals2 r
  cases (show u1 = Value.ref a from r1)
  cases (show u2 = Value.ref tp from r2)
  obtain ⟨oe, vs, h1, h2, h3, h4⟩ := exv_at I.hok ea
  obtain ⟨mA, hns, _⟩ := (show ObjOk X.prog X.w H s.heap dx (.xd fs) from I.hok dx _ ed)
  obtain ⟨od, ho, _⟩ := lookIn_ns hns
  have J : PySem.W.InstAt s.heap a oe C (some od) := ⟨h1, h2, by unfold PySem.W.notCls; rw [h4] <;> rfl, by rw [h3]; exact ho⟩
  obtain ⟨cd, hcd, _⟩ := PySem.W.any_some T.hdC
  obtain ⟨_, its, rv, o, h1', h2', n, h3'⟩ := (show ObjOk X.prog X.w H s.heap tp (.tup cs) from I.hok tp _ hT)
  have e3 := ClsV.all k rv
  subst e3
  obtain ⟨oc, od', dt, sl⟩ := o
  simp only at h2' h3'
  subst h2' h3'
  exact PySem.W.kia_tup (PySem.W.kitx_exc (by rw [hcd]; rfl) T.ga T.gg T.exC T.ca T.cn T.ct T.cm) I.kIn J h1' e (fun z => nomatch z) fun tk => ⟨.bl b, H, I.tok tk, rfl, q⟩
end Rm
set_option Elab.async false
set_option linter.all false
set_option maxRecDepth 100000
set_option maxHeartbeats 4000000
/-! # An own exception whose one argument is passed by its name -/
namespace RmX
open PySem PySem.W PySem.Calls PyProof.Rows PySem.HandSPX PySem.Spec
section
variable {M : Model} {A : Around} {E : Value → Shared → Prop} {hp : Heap} {gs : Array GenState} {dw : Drawn} {tk : Nat} {os : OsState}
variable {nm qn : Str} {C N : Addr} {bs bm bmB : List Value} {hdct : Bool} {sn : List Str} {sub : List Value} {ab : Bool} {col : Option Bool} {dd : Option Addr} {k0 k1 k2 k3 k5 : Option Value} {B newId initId : String}
theorem kw_check_new (FB : ExcBaseFacts B newId initId bmB) (like : ∀ X : String, bm.contains (.type X) = bmB.contains (.type X)) {kw : List (Str × Value)} {Q : Unit → Shared → Prop}
    (hC : hp.get? C = some (excClassObj nm qn C N bs bm hdct sn sub ab col dd k0 k1 k2 k3 k5 newId)) (done : Q () ⟨hp, gs, dw, tk, os⟩) : wpAny M A (checkBuiltinCall newId ⟨[.ref C], kw⟩) Q E ⟨hp, gs, dw, tk, os⟩ := by
  have inB : (Value.ref C :: bm).contains (.type B) = true := by rw [List.contains_cons, like, FB.hasB, Bool.or_true]
  have st := FB.noStar
  simp only [checkBuiltinCall, FB.newKind, FB.newSplit, FB.newRow]
  repeat (first | refine wpAny_loadPart_at hC ?_ | (refine wpAny_isSubtype_exc hC ?_; rw [inB]) | refine wpAny_staticBase_exc hC ?_ | refine wpAny_madeBy_exc hC ?_ | simp only [bne_self_eq_false, Bool.false_eq_true, if_false] | wp_step)
  exact done
end
section
variable {prog : Program} {w : World} {A : Around} {E : Value → Shared → Prop} {R : Result → Shared → Prop} {hp : Heap} {gs : Array GenState} {dw : Drawn} {tk : Nat} {os : OsState}
variable {nm qn : Str} {C N : Addr} {bs bm bmB : List Value} {hdct : Bool} {sn : List Str} {sub : List Value} {ab : Bool} {col : Option Bool} {dd : Option Addr} {k0 k1 k2 k3 k5 : Option Value} {B newId initId : String}
theorem kw_new (FB : ExcBaseFacts B newId initId bmB) (like : ∀ X : String, bm.contains (.type X) = bmB.contains (.type X)) {kw : List (Str × Value)}
    (hC : hp.get? C = some (excClassObj nm qn C N bs bm hdct sn sub ab col dd k0 k1 k2 k3 k5 newId))
    (done : R (.ok (.ret (.ref (hp.objs.size + 1)))) ⟨(hp.push (W.kdv_tup [])).push (excO C hp.objs.size), gs, dw, tk, os⟩) :
    codeAny (model prog w) A (.builtin newId ⟨[.ref C], kw⟩) R ⟨hp, gs, dw, tk, os⟩ := by
  have ends := FB.ends
  have inB : (Value.ref C :: bm).contains (.type B) = true := by rw [List.contains_cons, like, FB.hasB, Bool.or_true]
  have inA : (Value.ref C :: bm).contains (.type "AttributeError") = false := by rw [List.contains_cons, like, FB.noAttr]; rfl
  have inN : (Value.ref C :: bm).contains (.type "NameError") = false := by rw [List.contains_cons, like, FB.noName]; rfl
  refine codeAny_builtinAt FB.entry ?_
  unfold Builtin.«BaseException.__new__»
  refine PySem.wpAt_bind ?_
  show PySem.wpAt _ _ _ (stack >>= _) _ _ _
  refine PySem.wpAt_bind (PySem.wpAt_stack fun pp below => PySem.wpAt_of_wpAny ?_)
  wp_walk
  refine PySem.wpAt_of_wpAny ?_
  rw [FB.owner]
  repeat (first | with_reducible refine wpAny_madeHere_exc FB.canon hC ?_ | with_reducible refine wpAny_loadPart_at hC ?_ | (with_reducible refine wpAny_isSubtype_exc hC ?_; first | rw [inB] | rw [inA] | rw [inN]) | wp_step)
  show R _ _
  rw [Heap.size_push]
  exact done
theorem kw_type_call (FB : ExcBaseFacts B newId initId bmB) (like : ∀ X : String, bm.contains (.type X) = bmB.contains (.type X)) {kw : List (Str × Value)} {fI : Addr} {Q : Fin → Shared → Prop}
    (hC : hp.get? C = some (excClassObj nm qn C N bs bm hdct sn sub ab col dd k0 k1 k2 k3 k5 newId))
    (ini : W.Looks (model prog w) hp (typeLookup (.ref C) "__init__") (some (.ref fI))) (bnd : ∀ self, W.Looks (model prog w) hp (bindSpecial (.ref fI) self) (.ref fI, [self]))
    (done : codeAny (model prog w) A (.call (.ref fI) ⟨[.ref (hp.objs.size + 1)], kw⟩)
      (fun r s' => match r with | .ok (.ret v) => v = .none ∧ Q (.done (.ret (.ref (hp.objs.size + 1)))) s' | .ok _ => False | .error e => E e s')
      ⟨(hp.push (W.kdv_tup [])).push (excO C hp.objs.size), gs, dw, tk, os⟩) :
    wpAny (model prog w) A (Builtin.«type.__call__» ⟨[.ref C], kw⟩) Q E ⟨hp, gs, dw, tk, os⟩ := by
  repeat (first | with_reducible refine wpAny_loadPart_at hC ?_ | with_reducible refine wpAny_madeBy_exc hC ?_ | wp_step)
  refine codeAny_call_builtin_code (Code.quiet_builtin _ FB.quiet) (kw_check_new FB like hC ?_)
  refine kw_new FB like hC ?_
  show wpAny _ _ _ _ _ _
  have up : ∀ b o, hp.get? b = some o → ((hp.push (W.kdv_tup [])).push (excO C hp.objs.size)).get? b = some o := fun b o e => Heap.get?_push_of_some _ (Heap.get?_push_of_some _ e)
  have hC₁ := up _ _ hC
  have got : ((hp.push (W.kdv_tup [])).push (excO C hp.objs.size)).get? (hp.objs.size + 1) = some (excO C hp.objs.size) := by heap_get
  have own : (Value.ref C :: bm).contains (.ref C) = true := by simp
  have i1 := ini.keeps up
  have b1 := (bnd (.ref (hp.objs.size + 1))).keeps up
  unfold isInstance
  repeat (first | with_reducible refine wpAny_loadPart_at got ?_ | (with_reducible refine wpAny_isSubtype_exc hC₁ ?_; rw [own]) | wp_step)
  show wpAny _ _ (typeLookup (.ref C) _) _ _ _
  refine i1.at ?_
  refine wpAny_holding (wpAny_bind (b1.at ?_))
  refine wpAny_bind (wpAny_call (codeAny_mono done fun r s' z => ?_))
  rcases r with e | (v | _ | _ | _) <;> first | exact z | exact z.elim | skip
  obtain ⟨rfl, z⟩ := z
  first
    | exact wpAny_pure (wpAny_pure z)
    | (wp_walk; exact z)
theorem kw_call (FB : ExcBaseFacts B newId initId bmB) (like : ∀ X : String, bm.contains (.type X) = bmB.contains (.type X)) {kw : List (Str × Value)} {fI : Addr}
    (hC : hp.get? C = some (excClassObj nm qn C N bs bm hdct sn sub ab col dd k0 k1 k2 k3 k5 newId))
    (ini : W.Looks (model prog w) hp (typeLookup (.ref C) "__init__") (some (.ref fI))) (bnd : ∀ self, W.Looks (model prog w) hp (bindSpecial (.ref fI) self) (.ref fI, [self]))
    (done : codeAny (model prog w) (A.under (.builtin "type.__call__" ⟨[.ref C], kw⟩)) (.call (.ref fI) ⟨[.ref (hp.objs.size + 1)], kw⟩) (W.InitBack (hp.objs.size + 1) R)
      ⟨(hp.push (W.kdv_tup [])).push (excO C hp.objs.size), gs, dw, tk, os⟩) :
    codeAny (model prog w) A (.call (.ref C) ⟨[.ref C].drop 1, kw⟩) R ⟨hp, gs, dw, tk, os⟩ := by
  have look := tc_lookup
  have bindC := tc_bind (.ref C)
  have isTy : (⟨hp, gs, dw, tk, os⟩ : Shared).TypeIs (.ref C) "type" := ⟨_, hC, rfl⟩
  refine codeAny_of_tree ?_
  show wpAny _ _ (callAny (.ref C) ⟨[], kw⟩) _ _ _
  repeat (any_goals (first | assumption | with_reducible refine wpAny_loadPart_at hC ?_ | wp_step))
  refine ⟨rfl, ?_⟩
  refine codeAny_call_builtin_at (Code.quiet_builtin _ (by decide +kernel)) entry_typeCall (wpAny_check_type_call_sub hC (kw_type_call FB like hC ini bnd ?_))
  refine codeAny_mono done fun r s' z => ?_
  rcases r with e | (v | _ | _ | _) <;> exact z
end
section
variable {prog : Program} {w : World} {A : Around} {E : Value → Shared → Prop} {R : Result → Shared → Prop} {s : Shared} {K : Frag} {mg mb : Str → Option Value} {C fI : Addr} {F : Str} {B newId initId : String} {bmB : List Value}
theorem init_runK (FB : BaseX B newId initId bmB) (T : ExT prog K mg C fI F B newId initId bmB) (N : FName F) {x t0 : Addr} {v : Value} (X : K.In s.heap) (hlim : s.heap.NoLimit) (hg : s.heap.Ns mainGlobals mg) (hmg : mg "super" = none) (hb : s.heap.Ns builtinsNs mb) (hmb : mb "super" = some (.type "super"))
    (hx : s.heap.get? x = some (excO C t0)) (hnx : K.lookup x = none) (hroom : A.depth < recursionLimit) (hsh : Shown prog w A s.heap v)
    (hq : ∀ h' tk dx t1, InitEnd s.heap h' x C dx t1 F v → R (.ok (.ret .none)) { s with heap := h', toks := tk }) :
    codeAny (model prog w) A (.call (.ref fI) ⟨[.ref x], [(F, v)]⟩) R s := by
  obtain ⟨oc, od, doc, pm, an, cda, cc, ct, osl, p1, p2, q1, q2, q3, q4, q5, q6, q7, q8, q9, r1, r2, r3, r4, qual, tx, hpos, ho, hcd, htx, ⟨cl, cld, csl, hcc⟩, ccl, cdd, vs, ccs, file, tf, hcode, hvs, hfile⟩ := T.fn
  obtain ⟨nm, q, N', bs, bm, sn, sub, ab, col, dd, k0, k1, k2, k3, k5, hC, hbm⟩ := T.cls
  have hcl : clsIn K C = some { name := nm, bases := bs, mro := .ref C :: bm, ns := N', qualname := q, hasDict := true, slotNames := sn, subclasses := sub, abstract := ab, collection := col, hasDel := false } := by unfold clsIn; rw [hC] <;> rfl
  refine ks_codeAny_call_defAt (binds := [("self", .ref x), (F, v)]) hroom (X _ _ ho) rfl hlim (codeRec_of X hcd) rfl (BindsTo.of_eq (N.bk ..)) (by intro y hy; simp only [iS, List.mem_cons, List.mem_nil_iff, or_false] at hy; rcases hy with rfl | rfl | rfl | rfl <;> simp) (fun y hy => ?_) (fun h₁ hn hk => ?_) rfl rfl rfl
  · simp only [List.mem_cons, List.mem_nil_iff, or_false] at hy
    rcases hy with rfl | rfl
    · rfl
    · exact N.l1
  · have X₁ : K.In h₁ := X.keeps hk
    have hx₁ := hk _ _ hx
    have mself : (fun y => [(("self" : Str), Value.ref x), (F, v)].reverse.lookup y) ("self" : Str) = some (.ref x) := by
      show List.lookup ("self" : Str) [(F, v), (("self" : Str), Value.ref x)] = some (.ref x)
      rw [List.lookup_cons, N.l3]
      rfl
    have mF : (fun y => [(("self" : Str), Value.ref x), (F, v)].reverse.lookup y) F = some v := by
      show List.lookup F [(F, v), (("self" : Str), Value.ref x)] = some v
      rw [List.lookup_cons, beq_self_eq_true]
    have hD1 : h₁.get? C = some (excClassObj nm q C N' bs bm true sn sub ab col dd k0 k1 k2 k3 k5 newId) := X₁ _ _ hC
    refine ks_wpAt_execs_cons (ks_wpAt_Expr_any (ks_wpAt_MethodCall ?_ (eval_mcall hpos (by rfl))) rfl rfl)
    refine ks_wpAt_super_base (f := fI) (cc := cda) N.l6 N.l5 rfl rfl (X₁ _ _ ho) rfl rfl rfl (X₁ _ _ hcode) rfl hvs hfile T.top ?_
    refine ks_loadName_global rfl N.l6 (loadGlobal_builtin (mg := mg) (mb := mb) (hg.keeps hk) hmg (hb.keeps hk) hmb ⟨rfl, ?_⟩)
    refine wpAny_loadName_free rfl N.l5 rfl ⟨_, X₁ _ _ hcc, rfl⟩ ?_
    refine wpAny_loadName_local rfl N.l7 hn mself ?_
    refine ks_wpAny_isType_cls hD1 rfl ⟨rfl, ?_⟩
    refine ks_wpAny_call_super hD1 rfl hx₁ rfl (fun c z => by cases z) (looks_mroIn X₁ T.self) (fun h₂ e₂ k₂ => ?_)
    have X₂ : K.In h₂ := X₁.keeps k₂
    have I₂ : InstAt h₂ x (excO C t0) C none := ⟨k₂ _ _ hx₁, rfl, rfl, trivial⟩
    have hxC : x ≠ C := fun z => by
      rw [z, hD1] at hx₁
      cases hx₁
    have hsup := T.sup
    unfold ks_superIn at hsup
    rw [hcl] at hsup
    refine kxs_getMethod FB.kx e₂ (looks_opaque X₂ T.opq) (l₀ := .ref C :: bm) (fun A Q E s k q => wpAny_bind ((looks_clsIn X₂ hcl) A _ E s k (wpAny_pure q))) rfl X₂ hsup (I₂.type.andThen (looks_subIn X₂ T.hB)) hxC rfl ?_
    show wpAny _ _ (callWith q8 (.ref h₂.objs.size) [] _ []) _ _ _
    refine kxs_callWith (i := initId) (x := x) rfl ?_
    refine evalArgs_plain (spliced_cons ?_)
    have k₃ : ∀ b o, s.heap.get? b = some o → (h₂.push (kxs_mw initId x)).get? b = some o := fun b o e => Heap.get?_push_of_some _ (k₂ _ _ (hk _ _ e))
    have hmw : (h₂.push (kxs_mw initId x)).get? h₂.objs.size = some (kxs_mw initId x) := Heap.get?_push_at rfl rfl
    refine wpAny_JoinedStr (pos := q7) ?_
    refine Joins_cons (Constant_str ⟨tx, _, rfl, ?_, ?_⟩)
    · show (Str.empty ++ tx).length ≤ sizeLine
      rw [strLen_append, sizeLine_eq]
      have : Str.empty.length = 0 := rfl
      omega
    refine Joins_cons (wpAny_FormattedValue_repr (wpAny_Name (wpAny_loadName_local rfl N.l1 (hn.keeps fun b o e => Heap.get?_push_of_some _ (k₂ _ _ e)) mF ?_) N.l2))
    refine hsh _ _ _ _ (by rfl) (by show A.units + 3 ≤ _; omega) k₃ fun y u h₄ tk₄ hy k₄ => ?_
    have hyz : y.length ≤ sizeLine := Nat.le_trans hy (by rw [sizeLine_eq]; decide)
    refine PyProof.Rows.formatField_str (fun u' tk' => ⟨y, u', rfl, ?_, ?_⟩) hyz
    · rw [strLen_append, strLen_append, sizeLine_eq]
      have : Str.empty.length = 0 := rfl
      omega
    refine Joins_nil ⟨?_, spliced_nil ⟨?_, ?_⟩⟩
    · rw [strLen_append, strLen_append, sizeLine_eq]
      have : Str.empty.length = 0 := rfl
      omega
    · exact k₄ _ _ hmw
    have hx₄ : h₄.get? x = some (excO C t0) := k₄ _ _ (k₃ _ _ hx)
    have hC₄ := k₄ _ _ (k₃ _ _ (X _ _ hC))
    refine call_mw FB hC₄ hx₄ (k₄ _ _ hmw) (by show 1 ≤ sizeLine; rw [sizeLine_eq]; decide) fun h₅ t₅ k₅ hx₅ => ?_
    -- self.F = F
    have k₀₄ : ∀ b o, s.heap.get? b = some o → h₄.get? b = some o := fun b o e => k₄ _ _ (k₃ _ _ e)
    have X₅ : K.In h₅ := fun b o e => k₅ b o (fun z => by rw [z, hnx] at e; cases e) (k₀₄ _ _ (X _ _ e))
    have hn₅ : h₅.Ns s.heap.objs.size (fun y => [(("self" : Str), Value.ref x), (F, v)].reverse.lookup y) := by
      obtain ⟨oL, es, ep, e1, e2⟩ := hn
      have hxL : s.heap.objs.size ≠ x := Nat.ne_of_gt (Heap.lt_size hx)
      exact ⟨oL, es, ep, k₅ _ _ hxL (k₄ _ _ (Heap.get?_push_of_some _ (k₂ _ _ e1))), e2⟩
    refine wpAt_of_wpAny (wpAny_execs_cons (plainObj_wpAny_Assign_Attribute ?_))
    refine wpAny_Name (wpAny_loadName_local rfl N.l1 hn₅ mF ?_) N.l2
    refine wpAny_Name (wpAny_loadName_local rfl N.l7 hn₅ mself ?_) (by decide)
    refine set_plain X₅ (ox := excO C t₅) (od := none) ⟨hx₅, rfl, rfl, trivial⟩ T.sa ?_
    refine exc_osaB FB X₅ hx₅ hcl hbm rfl T.noF (fun h₆ tk₆ dx k₆ dn dne hx₆ hn₆ => ?_)
    refine wpAny_execs_nil ?_
    refine hq h₆ tk₆ dx t₅ ⟨fun b o hb e => k₆ b o hb (k₅ b o hb (k₀₄ b o e)), hx₆, ?_, dne, hn₆⟩
    exact Nat.le_of_lt (Nat.lt_of_lt_of_le hn₅.lt dn)
theorem exc_madeK (FB : BaseX B newId initId bmB) (T : ExT prog K mg C fI F B newId initId bmB) (N : FName F) {v : Value} (X : K.In s.heap) (hlim : s.heap.NoLimit) (hg : s.heap.Ns mainGlobals mg) (hmg : mg "super" = none) (hb : s.heap.Ns builtinsNs mb) (hmb : mb "super" = some (.type "super"))
    (hroom : A.depth + 1 < recursionLimit) (hsh : ∀ B : Around, B.guards = A.guards → B.units ≤ A.units + 8 → Shown prog w B s.heap v)
    (hq : ∀ h' tk e d, OwnMade s.heap h' e C d F v → R (.ok (.ret (.ref e))) { s with heap := h', toks := tk }) :
    codeAny (model prog w) A (.call (.ref C) ⟨[], [(F, v)]⟩) R s := by
  obtain ⟨nm, q, N', bs, bm, sn, sub, ab, col, dd, k0, k1, k2, k3, k5, hC, hbm⟩ := T.cls
  obtain ⟨hp, g, dr, tk, os⟩ := s
  have k : ∀ b o, hp.get? b = some o → ((hp.push (kdv_tup [])).push (excO C hp.objs.size)).get? b = some o := fun b o e => Heap.get?_push_of_some _ (Heap.get?_push_of_some _ e)
  have hget : ((hp.push (kdv_tup [])).push (excO C hp.objs.size)).get? (hp.objs.size + 1) = some (excO C hp.objs.size) := by heap_get
  have hnx : K.lookup (hp.objs.size + 1) = none := by
    cases e : K.lookup (hp.objs.size + 1) with
    | none => rfl
    | some o =>
      have z : hp.get? (hp.objs.size + 1) = some o := X _ _ e
      exact absurd (Nat.lt_of_succ_lt (Heap.lt_size z)) (Nat.lt_irrefl _)
  refine kw_call FB.exc (fun X => excTail_contains X bm hbm) (X _ _ hC) (looks_findIn X T.iC) (fun self => bind_fn X self T.tI) ?_
  refine init_runK (s := ⟨(hp.push (kdv_tup [])).push (excO C hp.objs.size), g, dr, tk, os⟩) FB T N (X.keeps k) (hlim.keeps k) (hg.keeps k) hmg (hb.keeps k) hmb hget hnx ?_ ?_ fun h' tk' dx t1 hE => ?_
  · show A.depth + 1 < recursionLimit
    exact hroom
  · intro D E' Q' s' hdg hdu hk hQ
    refine hsh _ ?_ ?_ D E' Q' s' hdg hdu (fun b o e => hk _ _ (k _ _ e)) hQ
    · rfl
    · rw [L2.make_units]; omega
  · obtain ⟨k', hx, dn, dne, hns⟩ := hE
    have old : ∀ b o, hp.get? b = some o → h'.get? b = some o := fun b o e => k' b o (Nat.ne_of_lt (Nat.lt_succ_of_lt (Heap.lt_size e))) (k b o e)
    have z : hp.objs.size + 1 + 1 ≤ dx := by
      first
        | (simpa only [Heap.size_push] using dn)
        | exact dn
        | (have q := dn; rw [Heap.size_push, Heap.size_push] at q; exact q)
    exact ⟨rfl, hq h' tk' (hp.objs.size + 1) dx ⟨old, Nat.le_succ _, ⟨t1, hx⟩, Nat.le_trans (Nat.le_trans (Nat.le_succ _) (Nat.le_succ _)) z, dne, hns⟩⟩
end
end RmX
namespace Rm
open PySem PySem.Spec PyProof.Rows L2 RmX
section
variable {X : Cx} {C fI : Addr} {F : Str} {B newId initId : String} {bmB : List Value} {e : Expr} {te : TE} {x : Str} {p pos kpos : Pos} {k : Nat}
theorem pe_mkxK (FB : BaseX B newId initId bmB) (T : ExT X.prog X.K X.mg C fI F B newId initId bmB) (N : FName F) (hr : Room k X.A) (hgd : X.A.guards = some []) (hex : X.ex = []) (hg : Gl X x) (gC : X.mg x = some (.ref C)) (hsu : X.mg "super" = none) (ha : PK X [⟨some F, e, kpos⟩] (tCons te tNil))
    (hall : (backToKw pos (keywordEach [⟨some F, e, kpos⟩] X.env)).all (·.1.isSome) = true := by rfl) (hks : (backToKw pos (keywordEach [⟨some F, e, kpos⟩] X.env)).filterMap (·.1) = [F] := by rfl)
    (hdb : (x == ("__debug__" : Str)) = false := by decide) (hpl : ((backTo pos (starEach [] X.env)).any (·.1) || (backToKw pos (keywordEach [⟨some F, e, kpos⟩] X.env)).any (·.1.isNone)) = false := by rfl) :
    PE X (.Call (.Name x p) [] [⟨some F, e, kpos⟩] pos) (tMkE X.K C F (tCons te tNil)) := by
  refine ⟨fun pins s σ H Q I h => ?_⟩
  refine wpAny_Call_Name_kw (ld_glob I hg gC ?_ hdb)
  refine PySem.W.callWith_KW0 (h₀ := X.base) I.ok.mod.kin T.kC hall ?_ hpl
  refine thn (ha.run pos pins s σ H _ I h) fun ws s1 hh => ?_
  obtain ⟨vs, H1, I1, r1, v, d, ev, hd, hf, q1⟩ := hh
  subst ev
  refine ⟨I1.kIn, ?_⟩
  rw [hks]
  cases r1 with
  | cons rv rn =>
    rename_i v' us'
    cases rn
    have hlim := I1.nolimit
    obtain ⟨as, rd⟩ := Dp.reads I1 d v v' hd rv
    have hun := hr.un
    have hdp := hr.dp
    obtain ⟨mb, hb1, hb2⟩ := I1.mod.blt
    obtain ⟨hp, g, dr, tk, os⟩ := s1
    refine wpAny_call (exc_madeK FB T N I1.kIn hlim (I1.mod.glob.keeps I1.bk) hsu (hb1.keeps I1.bk) ((hb2 _ (by decide)).trans (by decide +kernel)) (by omega) (fun D hD hDu => shown_of (hD.trans hgd) (by omega) rd hf) fun h' tk' e d M => ?_)
    show EP X pins σ Q (.ref e) ⟨h', g, dr, tk', os⟩
    obtain ⟨t1, hoe⟩ := M.obj
    have hns := M.ns
    have ob : ObjOk X.prog X.w (upd H1 d (.xd [(F, v)])) h' d (.xd [(F, v)]) := ⟨_, hns, fun f => relO_one rv f⟩
    have J : Inv X pins σ (upd H1 d (.xd [(F, v)])) ⟨h', g, dr, tk', os⟩ := I1.laid (t' := tk') M.keep M.dbig ob
    have ne : H1 e = none := I1.hok.fresh M.new
    have nd : H1 d = none := I1.hok.fresh M.dbig
    have old : ∀ b o, hp.get? b = some o → b ≠ e := fun b o q => Nat.ne_of_lt (Nat.lt_of_lt_of_le (Heap.lt_size q) M.new)
    have W : Inv X pins σ (upd (upd H1 d (.xd [(F, v)])) e (exv e C d)) ⟨h', g, dr, tk', os⟩ := by
      refine track J ?_ ?_ ?_ ?_ ?_ (exv_ok hoe rfl rfl rfl)
      · rw [upd_ne (Ne.symm M.dne)]
        exact ne
      · obtain ⟨m, ⟨oL, es, ep, e1, _⟩, _⟩ := I1.loc
        exact (old _ _ e1).symm
      · intro y c hy
        obtain ⟨v, o, ho, _⟩ := I1.cell y c hy
        exact old _ _ ho
      · intro q hq
        exact old _ _ (I1.pin q hq).1
      · cases e0 : X.s_0.heap.get? e with
        | none => rfl
        | some o =>
          obtain ⟨o', q⟩ := I1.base.there e o e0 (by rw [hex]; exact fun z => nomatch z)
          exact absurd rfl (old _ _ q)
    exact ⟨.ref e, _, W, rfl, q1 e d nd ne M.dne⟩
end
end Rm
set_option Elab.async false
set_option linter.all false
set_option maxRecDepth 100000
set_option maxHeartbeats 4000000
namespace Rm
open PySem PySem.Spec PyProof.Rows L2 RmX
/-! ### how often a flag stands in a list of flags -/
def flagIs (k : Bool) : Value → Bool
  | .bool b => b == k
  | _ => false
theorem flags_of : ∀ {bs : List Bool} {us : List Value}, Vals (bs.map V.bl) us → us = bs.map Value.bool
  | [], _, .nil => rfl
  | b :: bs, _, .cons r t => by
    have ih := flags_of (bs := bs) t
    cases r
    rw [ih]
    rfl
theorem flags_count (k : Bool) : ∀ bs : List Bool, (bs.map Value.bool).countP (flagIs k) = bs.count k
  | [] => rfl
  | b :: bs => by
    rw [List.map_cons, List.countP_cons, List.count_cons, flags_count k bs]
    rfl
def rCntB (K : PySem.W.Frag) : V → List V → Hp → VK → Prop := fun x xs H Q => ∃ (p : Addr) (bs : List Bool) (k : Bool), x = .ref p ∧ xs = [.bl k] ∧ SqL K H p (bs.map V.bl) ∧ Q (.int (bs.count k : Nat)) H
theorem mt_bcount {X : Cx} : MtR X "list.count" (rCntB X.K) := by
  intro pins s σ H x xs v us Q I rx rxs h
  obtain ⟨p, bs, k, rfl, rfl, hs, q⟩ := h
  cases rx
  obtain ⟨u, rfl, ru⟩ := rxs.one
  cases ru
  obtain ⟨its, rv, ⟨⟨cls, dd, data, sl⟩, n, ho, hc, hdn, hd⟩, hlen⟩ := I.list hs
  simp only at hc hd
  subst hc hd
  have e := flags_of rv
  subst e
  refine call_meets PySem.F.slot_list_count ⟨_, ho, rfl⟩ PySem.F.entry_list_count (PySem.F.args_list_count_2 _ _)
    (SeqAt.list_countAt p (bs.map Value.bool).toArray n dd sl (.bool k) (flagIs k)) ⟨ho, fun y hy => ?_, ?_⟩
  · have hy' : y ∈ bs.map Value.bool := by simpa using hy
    obtain ⟨b, _, rfl⟩ := List.mem_map.mp hy'
    exact SeqAt.EqAt.bool_bool b k
  · refine ⟨.int (bs.count k : Nat), H, I.tok _, ⟨s.toks, ?_⟩, q⟩
    show Value.int (((bs.map Value.bool).toArray.toList.countP (flagIs k) : Nat) : Int) s.toks = _
    rw [show (bs.map Value.bool).toArray.toList = bs.map Value.bool from rfl, flags_count]
end Rm
set_option Elab.async false
set_option linter.all false
set_option maxRecDepth 100000
set_option maxHeartbeats 4000000
namespace Rm
open PySem PySem.Spec PyProof.Rows L2 RmX
/-! ### math.lcm of two great numbers -/
def rLcm : List V → Hp → VK → Prop := fun vs H Q => ∃ a b : Int, vs = [.int a, .int b] ∧ a.natAbs < 2 ^ 6000 ∧ b.natAbs < 2 ^ 6000 ∧ Q (.int ((Nat.lcm a.natAbs b.natAbs : Nat) : Int)) H
theorem lcm_small {m n : Nat} (hm : m < 2 ^ 6000) (hn : n < 2 ^ 6000) : Nat.lcm m n < 2 ^ 12000 := by
  have h1 : Nat.lcm m n ≤ m * n := by
    unfold Nat.lcm
    exact Nat.div_le_self _ _
  have h2 : m * n < 2 ^ 6000 * 2 ^ 6000 := Nat.mul_lt_mul'' hm hn
  rw [← Nat.pow_add] at h2
  exact Nat.lt_of_le_of_lt h1 h2
theorem cr_lcm {X : Cx} : CallR X (.builtin "math.lcm") rLcm := by
  intro pins s σ H vs us Q I r h
  obtain ⟨a, b, rfl, za, zb, q⟩ := h
  obtain ⟨t, u, rfl⟩ := Vals.int2 r
  have e1 : Nat.lcm 1 a.natAbs = a.natAbs := by simp [Nat.lcm]
  have p1 : (1 : Nat) < 2 ^ 6000 := Nat.one_lt_two_pow (by decide)
  have l1 := PySem.Flt.log2_lt_of (n := max 1 a.natAbs) (show 0 < 6000 by decide) (by omega)
  have l2 := PySem.Flt.log2_lt_of (n := max a.natAbs b.natAbs) (show 0 < 6000 by decide) (by omega)
  have l3 := PySem.Flt.log2_lt_of (n := Nat.lcm a.natAbs b.natAbs) (show 0 < 12000 by decide) (lcm_small za zb)
  have g := PySem.W.mg_run_lcm a t b u (by
    have : (max 1 a.natAbs).log2 < 6000 := l1
    omega) (by
    have : (max a.natAbs b.natAbs).log2 < 6000 := l2
    omega) (by
    rw [e1]
    have : (((Nat.lcm a.natAbs b.natAbs : Nat) : Int)).natAbs.log2 < 12000 := l3
    exact Nat.lt_of_lt_of_le this (by decide))
  rw [e1] at g
  exact call_function_meets PySem.W.MGF.kind_lcm PySem.W.MGF.plain_lcm PySem.W.MGF.entry_lcm (PySem.W.MGF.args_lcm _ _) g.meets ⟨.int _, H, I.tok _, ⟨_, rfl⟩, q⟩
end Rm
set_option Elab.async false
set_option linter.all false
set_option maxRecDepth 100000
set_option maxHeartbeats 4000000
/-! # A def with a star parameter alone: def f( *xs) -/
namespace Rm
open PySem PySem.Spec PyProof.Rows L2 RmX
/-- what a call lets out is the same, whether or not a tuple was laid ahead of it -/
theorem cx_ahead {P : Program} {w : World} : CXNew (L2.CX P w) := by
  intro outer s H h2 p rest E e s' old big np x
  obtain ⟨a, B, H', cls, d, ea, fly, hok, ub, na, os, bare, hE⟩ := x
  have nb : ∀ b o, s.heap.get? b = some o → b ≠ p := fun b o q => Nat.ne_of_lt (Nat.lt_of_lt_of_le (Heap.lt_size q) big)
  have hb : ∀ b o, H b = some o → (upd H p (.tup rest)) b = some o := fun b o q => by
    rw [upd_ne (ne_of_none q np)]
    exact q
  refine ⟨a, B, H', cls, d, ea, fly, hok, ⟨fun b o q n nf => ?_, fun b o q f => ub.slot b o (old b o q) f, fun b o q n => ?_, fun b o q nf => ub.there b o (old b o q) nf, fun b xs q => ub.tups b xs (hb _ _ q), fun b o xs q => ub.frzs b o xs (hb _ _ q), fun b ps q => ub.tbls b ps (hb _ _ q)⟩, na, os, bare, hE⟩
  · refine ub.keep b o (old b o q) ?_ nf
    rw [upd_ne (nb b o q)]
    exact n
  · refine ub.free b o (old b o q) ?_
    rw [upd_ne (nb b o q)]
    exact n
/-- a def's promise by its positional arguments -/
def FnS (P : Program) (w : World) (K : PySem.W.Frag) (mg : Str → Option Value) (base : Heap) (k : Nat) (f : Addr) (sp : Sp) : Prop :=
  ∀ (A : Around) (outer : List Env) (s : Shared) (H : Hp) (us : List Value) (vs : List V) (Q : VK) (E : XK), Room k A → A.guards = some [] → Env0 P w K mg base A outer s H → Vals vs us → sp vs H Q E →
    codeAny (model P w) A (.call (.ref f) ⟨us, []⟩) (CR (L2.CX P w) outer P w H s Q E) s
theorem fn_star {P : Program} {w : World} {K : PySem.W.Frag} {mg : Str → Option Value} {base : Heap} {k : Nat} {f : Addr} {name qual : Str} {params : Arguments} {body : List Stmt} {scope : Scope} {dV kV doc pm cdv ct oc : Value} {an od : Option Addr}
    {osl : Array (Option Value)} {N : List Str} {pv : Str} {most : Nat} {sp : Sp} (at_f : K.lookup f = some ⟨oc, od, .func (PySem.W.fnOf name qual params body scope dV kV doc pm an cdv ct), osl⟩) (code : PySem.W.codeIn K cdv qual = true) (S : FnScope N [pv] scope)
    (few : most ≤ sizeLine) (bind : ∀ rest : List Value, rest.length ≤ most → bindArgs (PySem.W.fnOf name qual params body scope dV kV doc pm an cdv ct) ⟨rest, []⟩ = (newTuple rest >>= fun t => pure [(pv, t)]))
    (does : ∀ (A : Around) (outer : List Env) (s : Shared) (H : Hp) (vs : List V) (Q : VK) (E : XK), Room k (A.deeper (envOfC qual scope s.heap.objs.size f cdv)) → A.guards = some [] → sp vs H Q E →
      ∃ t, PSs (cxOf (L2.CX P w) P w K mg base N qual scope f cdv A outer s H E) body t ∧ t { nx := fun _ H' => Q .non H', rt := Q } (start N vs) H) :
    FnS P w K mg base (k + 1) f (fun rest H Q E => rest.length ≤ most ∧ ∀ p, H p = none → sp [.ref p] (upd H p (.tup rest)) Q E) := by
  intro A outer s H us rest Q E room quiet ent rel hsp
  obtain ⟨len, own⟩ := hsp
  have lenU : us.length ≤ most := by
    rw [← rel.length]
    exact len
  have kin : K.In s.heap := ent.mod.kin.keeps fun b o e => (ent.bs b o e).1
  have fresh : H s.heap.objs.size = none := ent.hok.fresh (Nat.le_refl _)
  let tp : Obj := { cls := .type "tuple", data := .seq us.toArray }
  have up : ∀ b o, s.heap.get? b = some o → (s.heap.push tp).get? b = some o := fun b o e => Heap.get?_push_of_some _ e
  have laid : ObjOk P w (upd H s.heap.objs.size (.tup rest)) (s.heap.push tp) s.heap.objs.size (.tup rest) := ⟨Nat.le_trans len few, us, rel, ⟨_, Heap.get?_push_size _ rfl, rfl, _, rfl⟩⟩
  have un : Un (frs outer) [] H (upd H s.heap.objs.size (.tup rest)) s.heap (s.heap.push tp) := Un.laid up (Nat.le_refl _) fresh
  have ent2 : Env0 P w K mg base A outer { s with heap := s.heap.push tp } (upd H s.heap.objs.size (.tup rest)) := by
    refine ⟨ent.frames, ent.mod, fun b o e => ⟨up b o (ent.bs b o e).1, ?_⟩, ?_, Heap.FunFrames.of_keeps (fun b o e _ => ⟨o, up b o e, rfl⟩) ent.funs, fun b hf => ?_, ent.hok.laid up (Nat.le_refl _) laid, ent.bare⟩
    · rw [upd_ne (Nat.ne_of_lt (Heap.lt_size (ent.bs b o e).1))]
      exact (ent.bs b o e).2
    · show base.objs.size ≤ (s.heap.push tp).objs.size
      rw [Heap.size_push]
      exact Nat.le_succ_of_le ent.bsz
    · obtain ⟨_, o, ho, _⟩ := ent.funs.mem hf
      rw [upd_ne (Nat.ne_of_lt (Heap.lt_size ho))]
      exact ent.frf b hf
  have nolim : (s.heap.push tp).NoLimit := ent.mod.nolimit.keeps fun b o e => (ent2.bs b o e).1
  have kinds : ∀ y ∈ [pv].zip [Value.ref s.heap.objs.size], scope.names.lookup y.1 = some .local ∨ (scope.names.lookup y.1 = some .cell ∧ ((cellsFrom ((s.heap.push tp).objs.size + 1) scope.names []).lookup y.1).isSome = true) := by
    intro y hy
    rcases S.par y.1 (List.of_mem_zip hy).1 with q | q
    · exact .inl q
    · exact .inr ⟨q, PySem.W.cellsFrom_some _ _ _ (.inl q)⟩
  refine codeAny_call_function room.depth (kin _ _ at_f) rfl S.co S.gen rfl (PySem.W.codeRec_of kin code) ?_
  rw [bind us lenU]
  refine wpAny_bind (wpAny_newTuple (wpAny_pure ?_) (Nat.le_trans lenU few))
  refine wpAny_newFunctionEnv_cells (s := { s with heap := s.heap.push tp }) S.kind kinds fun env he s1 x => ?_
  subst he
  refine ⟨nolim.keeps x.toInCall.keep, codeAny_func ?_⟩
  obtain ⟨t, ht, hq⟩ := does A outer { s with heap := s.heap.push tp } (upd H s.heap.objs.size (.tup rest)) [.ref s.heap.objs.size] Q E (room.deeper _) quiet (own _ fresh)
  have rl : Vals [V.ref s.heap.objs.size] [Value.ref s.heap.objs.size] := .cons rfl .nil
  have I : Inv (cxOf (L2.CX P w) P w K mg base N qual scope f cdv A outer { s with heap := s.heap.push tp } (upd H s.heap.objs.size (.tup rest)) E) [] (start N [.ref s.heap.objs.size]) (upd H s.heap.objs.size (.tup rest)) s1 := inv_start S room.hd ent2 rfl rl x
  refine wpAny_mono (ht.run [] s1 _ _ _ I hq) (fun fl s' hs => ?_) fun e s' hs => ?_
  · cases fl with
    | ret u =>
      obtain ⟨v, σ', H', J, rv, q⟩ := hs
      exact ⟨v, H', J.os, J.bare, un.trans J.base, J.hok, rv, q⟩
    | next =>
      obtain ⟨σ', H', J, q⟩ := hs
      exact ⟨V.non, H', J.os, J.bare, un.trans J.base, J.hok, rfl, q⟩
    | brk =>
      obtain ⟨_, _, _, q⟩ := hs
      exact q.elim
    | cont =>
      obtain ⟨_, _, _, q⟩ := hs
      exact q.elim
  · exact wpAny_mono hs (fun _ s2 z => cx_ahead outer s H _ _ rest E e s2 up (Nat.le_refl _) fresh z) fun e2 s2 z => cx_ahead outer s H _ _ rest E e2 s2 up (Nat.le_refl _) fresh z
section
variable {X : Cx} {k : Nat} {f : Addr} {sp : Sp} {E : L2.St → XK} {x : Str} {p pos : Pos} {e : Expr} {es : List Expr} {t : TA}
/-- f(e, ..), f by its positional promise -/
theorem pe_callStar (F : FnS X.prog X.w X.K X.mg X.base k f sp) (hr : Room k X.A) (hgd : X.A.guards = some []) (hg : Gl X x) (hm : X.mg x = some (.ref f)) (hk : PySem.W.keepIn X.K (.ref f) = true) (hx : ∀ σ, PassesAt (L2.CX X.prog X.w) X σ (E σ))
    (ha : PA X (e :: es) t) (hdb : (x == ("__debug__" : Str)) = false := by decide) (he : starEach (e :: es) X.env = (false, eval e X.env) :: starEach es X.env := by rfl) (hpl : (backTo pos (starEach es X.env)).any (·.1) = false := by rfl) :
    PE X (.Call (.Name x p) (e :: es) [] pos) (fun σ H Q => t σ H fun vs H1 => sp vs H1 Q (E σ)) := by
  refine ⟨fun pins s σ H Q I h => ?_⟩
  refine wpAny_Call_Name_kw (ld_glob I hg hm ?_ hdb)
  refine PySem.W.callWith_K (h₀ := X.base) I.ok.mod.kin hk (thn (ha.run pos pins s σ H _ I h) fun us s1 ⟨vs, H1, I1, r, q⟩ => ⟨I1.kIn, ?_⟩) he hpl
  refine wpAny_call (codeAny_mono (F X.A X.stack s1 H1 us vs Q (E σ) hr hgd I1.env0 r q) fun r s' hq => ?_)
  cases r with
  | error e => exact hx σ pins H1 s1 e s' I1 hq
  | ok fl =>
    cases fl with
    | ret u => exact I1.after hq
    | next => exact False.elim hq
    | brk => exact False.elim hq
    | cont => exact False.elim hq
/-- f() -/
theorem pe_callNone (F : FnS X.prog X.w X.K X.mg X.base k f sp) (hr : Room k X.A) (hgd : X.A.guards = some []) (hg : Gl X x) (hm : X.mg x = some (.ref f)) (hk : PySem.W.keepIn X.K (.ref f) = true) (hx : ∀ σ, PassesAt (L2.CX X.prog X.w) X σ (E σ))
    (hdb : (x == ("__debug__" : Str)) = false := by decide) : PE X (.Call (.Name x p) [] [] pos) (fun σ H Q => sp [] H Q (E σ)) := by
  refine ⟨fun pins s σ H Q I h => ?_⟩
  refine wpAny_Call_Name_kw (ld_glob I hg hm ?_ hdb)
  refine PySem.W.callWith_K0 I.kIn hk ?_
  refine wpAny_call (codeAny_mono (F X.A X.stack s H [] [] Q (E σ) hr hgd I.env0 .nil h) fun r s' hq => ?_)
  cases r with
  | error e => exact hx σ pins H s e s' I hq
  | ok fl =>
    cases fl with
    | ret u => exact I.after hq
    | next => exact False.elim hq
    | brk => exact False.elim hq
    | cont => exact False.elim hq
end
end Rm
set_option Elab.async false
set_option linter.all false
set_option maxRecDepth 100000
set_option maxHeartbeats 4000000
set_option exponentiation.threshold 100000
namespace K4
open PySem PySem.Spec PyProof.Rows L2 RmX Rm Mth
abbrev sPos : Stmt := top 11
abbrev sGre : Stmt := top 15
abbrev sLea : Stmt := top 16
abbrev sCPN : Stmt := top 17
/-! ### what a call of a def needs -/
structure Cal (P : Program) (w : World) (K : PySem.W.Frag) (mg : Str → Option Value) (base : Heap) (x : Str) (f : Addr) (fd : FuncData) (k : Nat) (ps : List Str) (sp : Sp) : Prop where
  fn : FnG P w K mg base k f fd ps sp
  g : mg x = some (.ref f)
  k : PySem.W.keepIn K (.ref f) = true
  b : Binds K fd ps []
/-- a promise as one word, not opened by the unifier -/
structure Bx (p : Prop) : Prop where
  h : p
def bx (sp : Sp) : Sp := fun vs H Q E => Bx (sp vs H Q E)
theorem fn_bx {P : Program} {w : World} {K : PySem.W.Frag} {mg : Str → Option Value} {base : Heap} {k : Nat} {f : Addr} {fd : FuncData} {ps : List Str} {sp : Sp} (F : FnG P w K mg base k f fd ps sp) : FnG P w K mg base k f fd ps (bx sp) := F.imp fun _ _ _ _ q => q.h
section
variable {X : Cx} {k : Nat} {f : Addr} {fd : FuncData} {ps ks : List Str} {sp : Sp} {x : Str} {p pos : Pos} {e : Expr} {es : List Expr} {kws : List Keyword} {t tk : TA} {g : List Value → List Value → List Value} {gV : List V → List V → List V}
theorem pe_cal (c : Cal X.prog X.w X.K X.mg X.base x f fd k ps sp) (hr : Room k X.A) (hgd : X.A.guards = some []) (ha : PA X (e :: es) t) (hg : Gl X x := by rfl)
    (hdb : (x == ("__debug__" : Str)) = false := by decide) (he : starEach (e :: es) X.env = (false, eval e X.env) :: starEach es X.env := by rfl) (hpl : (backTo pos (starEach es X.env)).any (·.1) = false := by rfl) :
    PE X (.Call (.Name x p) (e :: es) [] pos) (tCallSD sp [] (fun _ => E0) t) := pe_callG c.fn hr hgd hg c.g c.k c.b .nil pass0G ha hdb he hpl
theorem pe_calK (c : Cal X.prog X.w X.K X.mg X.base x f fd k ps sp) (hb : KBinds X.K fd ps ks g gV) (hr : Room k X.A) (hgd : X.A.guards = some []) (hkw : PK X kws tk) (hg : Gl X x := by rfl)
    (hall : (backToKw pos (keywordEach kws X.env)).all (·.1.isSome) = true := by rfl) (hks : (backToKw pos (keywordEach kws X.env)).filterMap (·.1) = ks := by rfl)
    (hdb : (x == ("__debug__" : Str)) = false := by decide) (hpl : ((backTo pos (starEach [] X.env)).any (·.1) || (backToKw pos (keywordEach kws X.env)).any (·.1.isNone)) = false := by rfl) :
    PE X (.Call (.Name x p) [] kws pos) (tCallKG sp gV (fun _ => E0) tk) := pe_callKG c.fn hr hgd hg c.g c.k hb pass0G hkw hall hks hdb hpl
end
theorem sqT_same {K : PySem.W.Frag} {H H' : Hp} {a : Addr} {xs : List V} (s : Same H H') (h : SqT K H a xs) : SqT K H' a xs := by
  rcases h with (h | ⟨o, h⟩) | h
  · exact .inl (.inl (s _ _ h))
  · exact .inl (.inr ⟨o, s _ _ h⟩)
  · exact .inr h
theorem same_tr {H H1 H2 : Hp} (s : Same H H1) (s2 : Same H1 H2) : Same H H2 := fun b o e => s2 b o (s b o e)
theorem same_rf (H : Hp) : Same H H := fun _ _ e => e
theorem tup_ok {xs : List V} {H : Hp} {Q : VK} (h : ∀ p H', Same H H' → H' p = some (.tup xs) → Q (.ref p) H') : ∀ p, H p = none → Q (.ref p) (upd H p (.tup xs)) := fun p np => h p _ (same_new np) upd_same
theorem lst_ok {xs : List V} {H : Hp} {Q : VK} (hl : xs.length ≤ 100) (h : ∀ p H', Same H H' → H' p = some (.lst xs) → Q (.ref p) H') : xs.length ≤ sizeLine ∧ ∀ p, H p = none → Q (.ref p) (upd H p (.lst xs)) := ⟨by rw [sizeLine_eq]; omega, fun p np => h p _ (same_new np) upd_same⟩
theorem sh_int {i : Int} (h : i.natAbs < 2 ^ 1900) : (PyData.int i).showable = true := by
  have := PySem.Flt.log2_lt_of (show 0 < 1900 by decide) h
  simp only [PyData.showable, decide_eq_true_eq]
  omega
def RepP (K : PySem.W.Frag) (xs : List V) (H : Hp) (Q : VK) : Prop := ∃ v d, xs = [v] ∧ Dp K H v d ∧ d.showable = true ∧ d.hasDict = false ∧ d.depth ≤ 20 ∧ d.shown.length ≤ sizeLine ∧ Q (.str d.shown) H
def rRep (K : PySem.W.Frag) : List V → Hp → VK → Prop := fun xs H Q => Bx (RepP K xs H Q)
theorem rep_ok {K : PySem.W.Frag} {H : Hp} {v : V} {d : PyData} {Q : VK} (hd : Dp K H v d) (f : Fit d) (h : Q (.str d.shown) H) : Bx (RepP K [v] H Q) :=
  ⟨v, d, rfl, hd, f.1, f.2.1, f.2.2.1, Nat.le_trans f.2.2.2 (by rw [sizeLine_eq]; decide), h⟩
theorem call_rep {X : Cx} {k : Nat} (hr : Room k X.A) (hgd : X.A.guards = some []) : CallR X (.builtin "repr") (rRep X.K) := fun pins s σ H xs us Q I r h => call_reprD hr hgd pins s σ H xs us Q I r h.h
theorem same_of {H H2 : Hp} {p : Addr} {o : HO} (n : H p = none) (e : upd H p o = H2) : Same H H2 ∧ H2 p = some o := by
  subst e
  exact ⟨same_new n, upd_same⟩
def isP : PyData → Bool
  | .tuple [.int a, .int b] => isN (.tuple [.int a, .int b]) && decide (1 ≤ a)
  | _ => false
theorem two_or (d : PyData) : (∃ a b, d = .tuple [.int a, .int b]) ∨ (isN d = false ∧ isP d = false) := by
  match d with
  | .none => exact .inr ⟨rfl, rfl⟩
  | .bool _ => exact .inr ⟨rfl, rfl⟩
  | .int _ => exact .inr ⟨rfl, rfl⟩
  | .str _ => exact .inr ⟨rfl, rfl⟩
  | .list _ => exact .inr ⟨rfl, rfl⟩
  | .dict _ => exact .inr ⟨rfl, rfl⟩
  | .tuple [] => exact .inr ⟨rfl, rfl⟩
  | .tuple [x] => exact .inr (by cases x <;> exact ⟨rfl, rfl⟩)
  | .tuple (x :: y :: z :: r) => exact .inr (by cases x <;> cases y <;> exact ⟨rfl, rfl⟩)
  | .tuple [x, y] =>
    cases x <;> cases y <;> first | exact .inl ⟨_, _, rfl⟩ | exact .inr ⟨rfl, rfl⟩
theorem no_n {d : PyData} (h : isN d = false) : isP d = false := by
  rcases two_or d with ⟨a, b, rfl⟩ | ⟨_, h2⟩
  · show (isN _ && _) = false
    rw [h, Bool.false_and]
  · exact h2
def spB (K : PySem.W.Frag) (f : PyData → Bool) : Sp := fun vs H Q _ => ∃ x d, vs = [x] ∧ Dp K H x d ∧ Q (.bl (f d)) H
/-- InvalidCount(0) leaves -/
def BadC (C2 : Addr) (H : Hp) (E : XK) : Prop := ∀ dx, H dx = none → E (.ref C2) (some dx) (upd H dx (.xd [(Str.ofString "count", V.int 0)]))
structure TxtM (P : Program) (K : PySem.W.Frag) (mg : Str → Option Value) (C2 f2 : Addr) : Prop where
  ex : ExT P K mg C2 f2 (Str.ofString "count") "ValueError" "ValueError.__new__" "ValueError.__init__" [.type "ValueError", .type "Exception", .type "BaseException", .type "object"]
  gC : mg "InvalidCount" = some (.ref C2)
  lcm : mg "lcm" = some (.builtin "math.lcm")
theorem fn_count : FName (Str.ofString "count") := ⟨rfl, by decide, by decide +kernel, by decide +kernel, rfl, rfl, rfl, fun _ _ _ _ _ _ _ _ _ _ _ _ => rfl, fun _ _ _ _ _ _ _ _ _ _ _ _ => rfl⟩
/-- numbers are held against the first that is no positive number -/
def spCPN (K : PySem.W.Frag) (C C2 : Addr) : Sp := fun vs H Q E => ∃ (t : Addr) (xs : List V) (ds : List PyData), vs = [.ref t] ∧ SqT K H t xs ∧ DpAll K H xs ds ∧ (ds = [] → BadC C2 H E) ∧
  (∀ (i : Nat) (x : V) (d : PyData), xs[i]? = some x → ds[i]? = some d → Dp K H x d → isP d = false → (∀ j : Nat, j < i → ∀ e, ds[j]? = some e → isP e = true) → Fit d ∧ Bad C x H E) ∧ (ds ≠ [] → (∀ d ∈ ds, isP d = true) → Q .non H)
theorem dpAll_at {K : PySem.W.Frag} {H : Hp} : ∀ {xs : List V} {ds : List PyData} {i : Nat} {x : V}, DpAll K H xs ds → xs[i]? = some x → ∃ d, ds[i]? = some d ∧ Dp K H x d
  | _, _, _, _, .nil, h => by simp at h
  | _, _, 0, _, .cons a r, h => by
    injection h with h
    subst h
    exact ⟨_, rfl, a⟩
  | _, _, i + 1, _, .cons a r, h => by
    obtain ⟨d, h1, h2⟩ := dpAll_at (i := i) r (by simpa using h)
    exact ⟨d, by simpa using h1, h2⟩
section
variable {P : Program} {w : World} {K : PySem.W.Frag} {mg : Str → Option Value} {base : Heap} {C fI fNum fIsI fIsN fChk fN fPos C2 f2 : Addr} {fdN fdPos : FuncData}
theorem scPo : FnScope ["thing"] ["thing"] (defScope sPos) := ⟨rfl, rfl, rfl, by decide +kernel, rfl, by decide +kernel, by decide +kernel⟩
theorem ok_pos {f : Addr} {fd : FuncData} (F : Fun K "is_positive" "is_positive" sPos f fd) (cN : Cal P w K mg base "is_number" fN fdN 2 ["thing"] (spIsN K)) : FnG P w K mg base 3 f fd ["thing"] (spB K isP) := by
  refine okG F scPo (fun vs H Q E h => ?_) (fun cdv A outer s H vs Q E hr hgd h => ?_)
  · obtain ⟨x, d, rfl, _⟩ := h
    rfl
  · obtain ⟨x, d, rfl, hd, k⟩ := h
    refine ⟨_, pss_one (ps_ret (pe_and (pe_cal cN hr hgd (pa_cons (pv 0) pa_nil)) (pe_one (pe_cmpR op_ge (pe_ix ix_tup (pv 0) pe_int (fun _ _ => rfl)) pe_int (nomark _))))), ?_⟩
    refine ⟨_, rfl, x, d, rfl, hd, _, rfl, ?_⟩
    cases e : isN d with
    | false =>
      rw [no_n e] at k
      exact iteF k
    | true =>
      refine iteT ?_
      obtain ⟨a, b, rfl, _⟩ := isN_iff e
      obtain ⟨q, rfl, hp⟩ := dp_num hd
      have hk : isP (.tuple [.int a, .int b]) = (isN (.tuple [.int a, .int b]) && decide (1 ≤ a)) := rfl
      rw [hk, e, Bool.true_and] at k
      exact ⟨_, rfl, q, _, _, _, rfl, rfl, hp, rfl, _, _, rfl, rfl, k⟩
theorem scCP : FnScope ["numbers", "thing"] ["numbers"] (defScope sCPN) := ⟨rfl, rfl, rfl, by decide +kernel, rfl, by decide +kernel, by decide +kernel⟩
theorem ok_cpn {f : Addr} {fd : FuncData} (F : Fun K "check_positive_numbers" "check_positive_numbers" sCPN f fd) (T : TxtN P K mg C fI fNum fIsI fIsN fChk) (M : TxtM P K mg C2 f2) (cP : Cal P w K mg base "is_positive" fPos fdPos 3 ["thing"] (spB K isP)) : FnG P w K mg base 4 f fd ["numbers"] (spCPN K C C2) := by
  refine okG F scCP (fun vs H Q E h => ?_) (fun cdv A outer s H vs Q E hr hgd h => ?_)
  · obtain ⟨t, xs, ds, rfl, _⟩ := h
    rfl
  · obtain ⟨t, xs, ds, rfl, ht, hd, k0, k1, k2⟩ := h
    have tk : Takes (cxOf (L2.CX P w) P w K mg base ["numbers", "thing"] "check_positive_numbers" (defScope sCPN) f cdv A outer s H E) (fun cls d _ H => E cls d H) := takes_of rfl rfl rfl rfl
    refine ⟨_, pss_cons (ps_if (pt_cmpR op_eq (pe_callB call_len_seq (by rfl) T.len PySem.boot_len (pa_cons (pv 0) pa_nil)) pe_int (nomark _)) (pss_one (ps_raiseX (X := cxOf (L2.CX P w) P w K mg base ["numbers", "thing"] "check_positive_numbers" (defScope sCPN) f cdv A outer s H E) rfl base_VE M.ex fn_count hr hgd M.gC T.sup tk (pa_cons pe_int pa_nil))) pss_nil)
      (pss_one (ps_for PassesOwn.leaving rfl (pi_tup (pv 0)) (pg_name (i := 1) scCP.nd rfl (Or.inl rfl)) (pss_one (ps_if (pt_not (pt_val (pe_cal cP hr hgd (pa_cons (pv 1) pa_nil)))) (pss_one (ps_raiseX (X := cxOf (L2.CX P w) P w K mg base ["numbers", "thing"] "check_positive_numbers" (defScope sCPN) f cdv A outer s H E) rfl base_VE T.ex fn_thing hr hgd T.gC T.sup tk (pa_cons (pv 1) pa_nil))) pss_nil)))), ?_⟩
    have hl := dpAll_len hd
    refine ⟨_, rfl, t, xs, rfl, .inr ht, rfl, _, rfl, ?_⟩
    refine ite2 (fun hz => ?_) (fun hz => ?_)
    · have e0 : ds = [] := by
        have := of_decide_eq_true hz
        injection this with this
        have : xs.length = 0 := by omega
        exact List.length_eq_zero_iff.mp (by omega)
      exact ⟨_, .int 0, rfl, .int 0, fit_of (by decide +kernel) (by decide +kernel) (by decide +kernel) (by decide +kernel), fun dx hdx => k0 e0 dx hdx⟩
    · have n0 : ds ≠ [] := fun e => hz (by
        rw [e] at hl
        have : xs.length = 0 := hl
        rw [this]
        rfl)
      refine ⟨_, rfl, t, rfl, ⟨_, ht⟩, for_tup (xs := xs) (fun i σ H' => ∃ v : Option V, σ = [some (.ref t), v] ∧ H' = H ∧ ∀ j : Nat, j < i → ∀ e, ds[j]? = some e → isP e = true) ⟨_, rfl, rfl, fun j hj => absurd hj (by omega)⟩ ?_ ?_ ?_⟩
      · rintro i σ H' hi ⟨v, rfl, rfl, hp⟩
        exact ht
      · rintro i x σ H' hi ⟨v, rfl, rfl, hp⟩
        obtain ⟨d, h1, h2⟩ := dpAll_at hd hi
        refine ⟨_, rfl, x, d, rfl, h2, _, rfl, ?_⟩
        cases e : isP d with
        | false =>
          obtain ⟨ft, bd⟩ := k1 i x d hi h1 h2 e hp
          exact iteT ⟨_, rfl, x, d, rfl, h2, ft, fun dx hdx => bd dx hdx⟩
        | true =>
          refine iteF ⟨_, rfl, rfl, fun j hj e' he => ?_⟩
          rcases Nat.lt_succ_iff_lt_or_eq.mp hj with q | q
          · exact hp j q e' he
          · subst q
            rw [h1] at he
            injection he with he
            rw [← he]
            exact e
      · rintro σ H' ⟨v, rfl, rfl, hp⟩
        refine k2 n0 fun d hd' => ?_
        obtain ⟨j, hj, e⟩ := List.mem_iff_getElem.mp hd'
        exact hp j (by omega) d (by rw [List.getElem?_eq_getElem hj, e])
end
end K4
set_option Elab.async false
set_option linter.all false
set_option maxRecDepth 100000
set_option maxHeartbeats 4000000
set_option exponentiation.threshold 100000
namespace K4
open PySem PySem.Spec PyProof.Rows L2 RmX Rm Mth
def spFold (K : PySem.W.Frag) (C C2 : Addr) (f1 f2 : Nat → Nat → Nat) : Sp := fun vs H Q E => ∃ (t : Addr) (xs : List V) (ds : List PyData), vs = [.ref t] ∧ SqT K H t xs ∧ DpAll K H xs ds ∧ (ds = [] → BadC C2 H E) ∧
  (∀ (i : Nat) (x : V) (d : PyData), xs[i]? = some x → ds[i]? = some d → Dp K H x d → isP d = false → (∀ j : Nat, j < i → ∀ e, ds[j]? = some e → isP e = true) → Fit d ∧ Bad C x H E) ∧
  (ds ≠ [] → (∀ d ∈ ds, isP d = true) → ∃ (ps : List (Nat × Nat)) (a0 b0 : Nat) (rest : List (Nat × Nat)), ps = (a0, b0) :: rest ∧ ds = ps.map (fun p => .tuple [.int (p.1 : Int), .int (p.2 : Int)]) ∧ (∀ p ∈ ps, p.1 < 2 ^ 300 ∧ p.2 < 2 ^ 300) ∧ ps.length ≤ 8 ∧
    ∀ q, H q = none → Q (.ref q) (upd H q (.tup [.int ((ps.foldl (fun g p => f1 g p.1) a0 : Nat) : Int), .int ((ps.foldl (fun g p => f2 g p.2) b0 : Nat) : Int)])))
theorem lcm_sz {m n i : Nat} (h1 : m < 2 ^ (300 * (i + 1))) (h2 : n < 2 ^ 300) : Nat.lcm m n < 2 ^ (300 * (i + 1 + 1)) := by
  have a : Nat.lcm m n ≤ m * n := by
    unfold Nat.lcm
    exact Nat.div_le_self _ _
  have b : m * n < 2 ^ (300 * (i + 1)) * 2 ^ 300 := Nat.mul_lt_mul'' h1 h2
  rw [← Nat.pow_add] at b
  have c : 300 * (i + 1) + 300 = 300 * (i + 1 + 1) := by omega
  rw [c] at b
  exact Nat.lt_of_le_of_lt a b
theorem gcd_sz {m n i : Nat} (h1 : m < 2 ^ (300 * (i + 1))) (h2 : n < 2 ^ 300) : Nat.gcd m n < 2 ^ (300 * (i + 1 + 1)) := by
  have up1 : (2 : Nat) ^ (300 * (i + 1)) ≤ 2 ^ (300 * (i + 1 + 1)) := Nat.pow_le_pow_right (by decide) (by omega)
  have up2 : (2 : Nat) ^ 300 ≤ 2 ^ (300 * (i + 1 + 1)) := Nat.pow_le_pow_right (by decide) (by omega)
  rcases Nat.eq_zero_or_pos m with z | z
  · rw [z, Nat.gcd_zero_left]
    exact Nat.lt_of_lt_of_le h2 up2
  · exact Nat.lt_of_le_of_lt (Nat.gcd_le_left n z) (Nat.lt_of_lt_of_le h1 up1)
section
variable {P : Program} {w : World} {K : PySem.W.Frag} {mg : Str → Option Value} {base : Heap} {C fI fNum fIsI fIsN fChk fC C2 f2 : Addr} {fdC : FuncData}
theorem scGr : FnScope ["numbers", "above", "below", "value"] ["numbers"] (defScope sGre) := ⟨rfl, rfl, rfl, by decide +kernel, rfl, by decide +kernel, by decide +kernel⟩
theorem does_gre {f : Addr} (T : TxtN P K mg C fI fNum fIsI fIsN fChk) (M : TxtM P K mg C2 f2) (cC : Cal P w K mg base "check_positive_numbers" fC fdC 4 ["numbers"] (spCPN K C C2)) (cdv : Value) (A : Around) (outer : List Env) (s : Shared) (H : Hp) (vs : List V) (Q : VK) (E : XK)
    (hr : Room 4 (A.deeper (envOfC "greatest_measure" (defScope sGre) s.heap.objs.size f cdv))) (hgd : A.guards = some []) (h : spFold K C C2 Nat.gcd Nat.lcm vs H Q E) :
    ∃ t, PSs (cxOf (L2.CX P w) P w K mg base ["numbers", "above", "below", "value"] "greatest_measure" (defScope sGre) f cdv A outer s H E) (defBody sGre) t ∧ t { nx := fun _ H' => Q .non H', rt := Q } (start ["numbers", "above", "below", "value"] vs) H := by
  obtain ⟨t, xs, ds, rfl, ht, hd, k0, k1, kg⟩ := h
  have tk : Takes (cxOf (L2.CX P w) P w K mg base ["numbers", "above", "below", "value"] "greatest_measure" (defScope sGre) f cdv A outer s H E) (fun cls d _ H => E cls d H) := takes_of rfl rfl rfl rfl
  refine ⟨_, pss_cons (ps_expr (pe_callG (E := WE (fun cls d _ H => E cls d H)) cC.fn hr hgd rfl cC.g cC.k cC.b .nil (fun σ => passAt tk σ) (pa_cons (pv 0) pa_nil)))
    (pss_cons (ps_asg (pe_ix ix_tup (pv 0) pe_int (fun _ _ => rfl)) (pg_tup rfl (pgs_cons (pg_name (i := 1) scGr.nd rfl (Or.inl rfl)) (pgs_cons (pg_name (i := 2) scGr.nd rfl (Or.inl rfl)) pgs_nil))))
    (pss_cons (ps_for PassesOwn.leaving rfl (pi_tup (pv 0)) (pg_name (i := 3) scGr.nd rfl (Or.inl rfl))
      (pss_cons (ps_set (i := 1) scGr.nd rfl (Or.inl rfl) (pe_callBfun cr_gcd rfl T.gcd (pa_cons (pv 1) (pa_cons (pe_ix ix_tup (pv 3) pe_int (fun _ _ => rfl)) pa_nil))))
      (pss_one (ps_set (i := 2) scGr.nd rfl (Or.inl rfl) (pe_callBfun cr_lcm rfl M.lcm (pa_cons (pv 2) (pa_cons (pe_ix ix_tup (pv 3) pe_int (fun _ _ => rfl)) pa_nil)))))))
    (pss_one (ps_ret (pe_tup (pa_cons (pv 1) (pa_cons (pv 2) pa_nil))))))), ?_⟩
  refine ⟨_, rfl, t, xs, ds, rfl, ht, hd, k0, k1, fun ne pos => ?_⟩
  obtain ⟨ps, a0, b0, rest, eps, eds, sz, len, fin⟩ := kg ne pos
  subst eds
  have at_ : ∀ (i : Nat) (x : V), xs[i]? = some x → ∃ (p : Nat × Nat) (q : Addr), ps[i]? = some p ∧ x = .ref q ∧ SqT K H q [.int (p.1 : Int), .int (p.2 : Int)] := by
    intro i x hi
    obtain ⟨d, h1, h2⟩ := dpAll_at hd hi
    rw [List.getElem?_map] at h1
    cases e : ps[i]? with
    | none => rw [e] at h1; cases h1
    | some p =>
      rw [e] at h1
      injection h1 with h1
      subst h1
      obtain ⟨q, eq, hq⟩ := dp_num h2
      exact ⟨p, q, rfl, eq, hq⟩
  have hl := dpAll_len hd
  rw [List.length_map] at hl
  have x0 : 0 < xs.length := by rw [hl, eps]; exact Nat.succ_pos _
  obtain ⟨p0, q0, e0, ex0, hq0⟩ := at_ 0 _ (List.getElem?_eq_getElem x0)
  have ep0 : p0 = (a0, b0) := by
    rw [eps] at e0
    injection e0 with e0
    exact e0.symm
  subst ep0
  have ix0 : atI xs 0 = some (.ref q0) := by
    unfold atI ixN
    rw [if_pos (by decide), if_pos (by omega)]
    show xs[(0 : Int).toNat]? = _
    rw [← ex0]
    exact List.getElem?_eq_getElem x0
  refine ⟨_, rfl, t, xs, 0, _, rfl, rfl, ht, ix0, q0, _, rfl, hq0, rfl, _, _, rfl, _, _, rfl, rfl, ?_⟩
  refine ⟨_, rfl, t, rfl, ⟨_, ht⟩, for_tup (xs := xs) (fun i σ H' => ∃ v : Option V, σ = [some (.ref t), some (.int (((ps.take i).foldl (fun g p => Nat.gcd g p.1) a0 : Nat) : Int)), some (.int (((ps.take i).foldl (fun g p => Nat.lcm g p.2) b0 : Nat) : Int)), v] ∧ H' = H ∧ (ps.take i).foldl (fun g p => Nat.gcd g p.1) a0 < 2 ^ (300 * (i + 1)) ∧ (ps.take i).foldl (fun g p => Nat.lcm g p.2) b0 < 2 ^ (300 * (i + 1)))
    ⟨_, rfl, rfl, ?_, ?_⟩ ?_ ?_ ?_⟩
  · exact (sz (a0, b0) (by rw [eps]; exact List.mem_cons_self)).1
  · exact (sz (a0, b0) (by rw [eps]; exact List.mem_cons_self)).2
  · rintro i σ H' hi ⟨v, rfl, rfl, _, _⟩
    exact ht
  · rintro i x σ H' hi ⟨v, rfl, rfl, z1, z2⟩
    obtain ⟨p, q, e, rfl, hq⟩ := at_ i x hi
    have il : i < ps.length := (List.getElem?_eq_some_iff.mp e).1
    obtain ⟨y1, y2⟩ := sz p (List.mem_of_getElem? e)
    have tk1 : ps.take (i + 1) = ps.take i ++ [p] := by rw [List.take_succ, e]; rfl
    have w6 : ∀ {n : Nat}, n < 2 ^ (300 * (i + 1)) → n < 2 ^ 6000 := fun h => Nat.lt_of_lt_of_le h (Nat.pow_le_pow_right (by decide) (by omega))
    have w3 : ∀ {n : Nat}, n < 2 ^ 300 → n < 2 ^ 6000 := fun h => Nat.lt_trans h (Nat.pow_lt_pow_right (by decide) (by decide))
    refine ⟨_, rfl, _, rfl, q, _, _, _, rfl, rfl, hq, rfl, _, _, rfl, ?_⟩
    refine ⟨_, rfl, _, rfl, q, _, _, _, rfl, rfl, hq, rfl, _, _, rfl, w6 z2, w3 y2, ?_⟩
    rw [tk1, List.foldl_append, List.foldl_append]
    exact ⟨_, rfl, rfl, gcd_sz z1 y1, lcm_sz z2 y2⟩
  · rintro σ H' ⟨v, rfl, rfl, _, _⟩
    rw [hl, List.take_length]
    refine ⟨_, rfl, _, rfl, by rw [sizeLine_eq]; show 2 ≤ 16777216; decide, fun q nq => fin q nq⟩
theorem scLm : FnScope ["numbers", "above", "below", "value"] ["numbers"] (defScope sLea) := ⟨rfl, rfl, rfl, by decide +kernel, rfl, by decide +kernel, by decide +kernel⟩
theorem does_lea {f : Addr} (T : TxtN P K mg C fI fNum fIsI fIsN fChk) (M : TxtM P K mg C2 f2) (cC : Cal P w K mg base "check_positive_numbers" fC fdC 4 ["numbers"] (spCPN K C C2)) (cdv : Value) (A : Around) (outer : List Env) (s : Shared) (H : Hp) (vs : List V) (Q : VK) (E : XK)
    (hr : Room 4 (A.deeper (envOfC "least_multiple" (defScope sLea) s.heap.objs.size f cdv))) (hgd : A.guards = some []) (h : spFold K C C2 Nat.lcm Nat.gcd vs H Q E) :
    ∃ t, PSs (cxOf (L2.CX P w) P w K mg base ["numbers", "above", "below", "value"] "least_multiple" (defScope sLea) f cdv A outer s H E) (defBody sLea) t ∧ t { nx := fun _ H' => Q .non H', rt := Q } (start ["numbers", "above", "below", "value"] vs) H := by
  obtain ⟨t, xs, ds, rfl, ht, hd, k0, k1, kg⟩ := h
  have tk : Takes (cxOf (L2.CX P w) P w K mg base ["numbers", "above", "below", "value"] "least_multiple" (defScope sLea) f cdv A outer s H E) (fun cls d _ H => E cls d H) := takes_of rfl rfl rfl rfl
  refine ⟨_, pss_cons (ps_expr (pe_callG (E := WE (fun cls d _ H => E cls d H)) cC.fn hr hgd rfl cC.g cC.k cC.b .nil (fun σ => passAt tk σ) (pa_cons (pv 0) pa_nil)))
    (pss_cons (ps_asg (pe_ix ix_tup (pv 0) pe_int (fun _ _ => rfl)) (pg_tup rfl (pgs_cons (pg_name (i := 1) scLm.nd rfl (Or.inl rfl)) (pgs_cons (pg_name (i := 2) scLm.nd rfl (Or.inl rfl)) pgs_nil))))
    (pss_cons (ps_for PassesOwn.leaving rfl (pi_tup (pv 0)) (pg_name (i := 3) scLm.nd rfl (Or.inl rfl))
      (pss_cons (ps_set (i := 1) scLm.nd rfl (Or.inl rfl) (pe_callBfun cr_lcm rfl M.lcm (pa_cons (pv 1) (pa_cons (pe_ix ix_tup (pv 3) pe_int (fun _ _ => rfl)) pa_nil))))
      (pss_one (ps_set (i := 2) scLm.nd rfl (Or.inl rfl) (pe_callBfun cr_gcd rfl T.gcd (pa_cons (pv 2) (pa_cons (pe_ix ix_tup (pv 3) pe_int (fun _ _ => rfl)) pa_nil)))))))
    (pss_one (ps_ret (pe_tup (pa_cons (pv 1) (pa_cons (pv 2) pa_nil))))))), ?_⟩
  refine ⟨_, rfl, t, xs, ds, rfl, ht, hd, k0, k1, fun ne pos => ?_⟩
  obtain ⟨ps, a0, b0, rest, eps, eds, sz, len, fin⟩ := kg ne pos
  subst eds
  have at_ : ∀ (i : Nat) (x : V), xs[i]? = some x → ∃ (p : Nat × Nat) (q : Addr), ps[i]? = some p ∧ x = .ref q ∧ SqT K H q [.int (p.1 : Int), .int (p.2 : Int)] := by
    intro i x hi
    obtain ⟨d, h1, h2⟩ := dpAll_at hd hi
    rw [List.getElem?_map] at h1
    cases e : ps[i]? with
    | none => rw [e] at h1; cases h1
    | some p =>
      rw [e] at h1
      injection h1 with h1
      subst h1
      obtain ⟨q, eq, hq⟩ := dp_num h2
      exact ⟨p, q, rfl, eq, hq⟩
  have hl := dpAll_len hd
  rw [List.length_map] at hl
  have x0 : 0 < xs.length := by rw [hl, eps]; exact Nat.succ_pos _
  obtain ⟨p0, q0, e0, ex0, hq0⟩ := at_ 0 _ (List.getElem?_eq_getElem x0)
  have ep0 : p0 = (a0, b0) := by
    rw [eps] at e0
    injection e0 with e0
    exact e0.symm
  subst ep0
  have ix0 : atI xs 0 = some (.ref q0) := by
    unfold atI ixN
    rw [if_pos (by decide), if_pos (by omega)]
    show xs[(0 : Int).toNat]? = _
    rw [← ex0]
    exact List.getElem?_eq_getElem x0
  refine ⟨_, rfl, t, xs, 0, _, rfl, rfl, ht, ix0, q0, _, rfl, hq0, rfl, _, _, rfl, _, _, rfl, rfl, ?_⟩
  refine ⟨_, rfl, t, rfl, ⟨_, ht⟩, for_tup (xs := xs) (fun i σ H' => ∃ v : Option V, σ = [some (.ref t), some (.int (((ps.take i).foldl (fun g p => Nat.lcm g p.1) a0 : Nat) : Int)), some (.int (((ps.take i).foldl (fun g p => Nat.gcd g p.2) b0 : Nat) : Int)), v] ∧ H' = H ∧ (ps.take i).foldl (fun g p => Nat.lcm g p.1) a0 < 2 ^ (300 * (i + 1)) ∧ (ps.take i).foldl (fun g p => Nat.gcd g p.2) b0 < 2 ^ (300 * (i + 1)))
    ⟨_, rfl, rfl, ?_, ?_⟩ ?_ ?_ ?_⟩
  · exact (sz (a0, b0) (by rw [eps]; exact List.mem_cons_self)).1
  · exact (sz (a0, b0) (by rw [eps]; exact List.mem_cons_self)).2
  · rintro i σ H' hi ⟨v, rfl, rfl, _, _⟩
    exact ht
  · rintro i x σ H' hi ⟨v, rfl, rfl, z1, z2⟩
    obtain ⟨p, q, e, rfl, hq⟩ := at_ i x hi
    have il : i < ps.length := (List.getElem?_eq_some_iff.mp e).1
    obtain ⟨y1, y2⟩ := sz p (List.mem_of_getElem? e)
    have tk1 : ps.take (i + 1) = ps.take i ++ [p] := by rw [List.take_succ, e]; rfl
    have w6 : ∀ {n : Nat}, n < 2 ^ (300 * (i + 1)) → n < 2 ^ 6000 := fun h => Nat.lt_of_lt_of_le h (Nat.pow_le_pow_right (by decide) (by omega))
    have w3 : ∀ {n : Nat}, n < 2 ^ 300 → n < 2 ^ 6000 := fun h => Nat.lt_trans h (Nat.pow_lt_pow_right (by decide) (by decide))
    refine ⟨_, rfl, _, rfl, q, _, _, _, rfl, rfl, hq, rfl, _, _, rfl, w6 z1, w3 y1, ?_⟩
    refine ⟨_, rfl, _, rfl, q, _, _, _, rfl, rfl, hq, rfl, _, _, rfl, ?_⟩
    rw [tk1, List.foldl_append, List.foldl_append]
    exact ⟨_, rfl, rfl, lcm_sz z1 y1, gcd_sz z2 y2⟩
  · rintro σ H' ⟨v, rfl, rfl, _, _⟩
    rw [hl, List.take_length]
    refine ⟨_, rfl, _, rfl, by rw [sizeLine_eq]; show 2 ≤ 16777216; decide, fun q nq => fin q nq⟩
end
end K4
set_option Elab.async false
set_option linter.all false
set_option maxRecDepth 100000
set_option maxHeartbeats 4000000
set_option exponentiation.threshold 100000
namespace K4
open PySem PySem.Spec PyProof.Rows L2 RmX Rm Mth
abbrev sDvs : Stmt := top 22
abbrev sPst : Stmt := top 23
abbrev sSome : Stmt := top 24
/-- a pair of naturals as data -/
def nD (p : NP) : PyData := .tuple [.int (p.1 : Int), .int (p.2 : Int)]
structure Sm (B : Nat) (p : NP) : Prop where
  low : Low p
  la : p.1 < 2 ^ B
  lb : p.2 < 2 ^ B
theorem Sm.mono {B B' : Nat} {p : NP} (h : Sm B p) (e : B ≤ B') : Sm B' p := ⟨h.low, Nat.lt_of_lt_of_le h.la (Nat.pow_le_pow_right (by decide) e), Nat.lt_of_lt_of_le h.lb (Nat.pow_le_pow_right (by decide) e)⟩
theorem low_num {p : NP} (h : Low p) : isNum (p.1 : Int) (p.2 : Int) := ⟨by have := h.b; omega, by rw [Int.natAbs_natCast, Int.natAbs_natCast]; exact h.co⟩
theorem low_isN {p : NP} (h : Low p) : isN (nD p) = true := isN_of (low_num h)
theorem low_isP {p : NP} (h : Low p) : isP (nD p) = true := by
  show (isN _ && decide (1 ≤ (p.1 : Int))) = true
  rw [isN_of (low_num h), Bool.true_and]
  exact decide_eq_true (by have := h.a; omega)
theorem nat3 {n B : Nat} (h : n < 2 ^ B) (e : B ≤ 3000) : ((n : Nat) : Int).natAbs < 2 ^ 3000 := by
  rw [Int.natAbs_natCast]
  exact Nat.lt_of_lt_of_le h (Nat.pow_le_pow_right (by decide) e)
theorem Same.kp {H H' : Hp} {p : Addr} (s : Same H H') : Kp p H H' := fun b o e _ => s b o e
/-- data stays, where only the draw changes -/
theorem dp_kp {K : PySem.W.Frag} {H H' : Hp} {p c : Addr} {n : Nat} (D : DrawAt H p c n) (kp : Kp p H H') : ∀ {d : PyData} {x : V}, Dp K H x d → Dp K H' x d := by
  obtain ⟨_, _, _, _, hp, _⟩ := D
  have sl : ∀ {a : Addr} {xs : List V}, SqL K H a xs → SqL K H' a xs := fun {a xs} h => by
    rcases h with (h | ⟨o, h⟩) | h
    · exact .inl (.inl (kp _ _ h (ne_of h hp (by intro z; cases z))))
    · exact .inl (.inr ⟨o, kp _ _ h (ne_of h hp (by intro z; cases z))⟩)
    · exact .inr h
  have st : ∀ {a : Addr} {xs : List V}, SqT K H a xs → SqT K H' a xs := fun {a xs} h => by
    rcases h with (h | ⟨o, h⟩) | h
    · exact .inl (.inl (kp _ _ h (ne_of h hp (by intro z; cases z))))
    · exact .inl (.inr ⟨o, kp _ _ h (ne_of h hp (by intro z; cases z))⟩)
    · exact .inr h
  intro d x h
  exact Dp.rec (motive_1 := fun x d _ => Dp K H' x d) (motive_2 := fun xs ds _ => DpAll K H' xs ds) .non .bl .int .str (fun h1 _ ih => .lst (sl h1) ih) (fun h1 _ ih => .tup (st h1) ih) .nil (fun _ _ i1 i2 => .cons i1 i2) h
theorem dpAll_map {K : PySem.W.Frag} {H H' : Hp} (f : ∀ {d : PyData} {x : V}, Dp K H x d → Dp K H' x d) : ∀ {xs : List V} {ds : List PyData}, DpAll K H xs ds → DpAll K H' xs ds
  | _, _, .nil => .nil
  | _, _, .cons a r => .cons (f a) (dpAll_map f r)
theorem dpAll_app {K : PySem.W.Frag} {H : Hp} : ∀ {xs ys : List V} {ds es : List PyData}, DpAll K H xs ds → DpAll K H ys es → DpAll K H (xs ++ ys) (ds ++ es)
  | _, _, _, _, .nil, h => h
  | _, _, _, _, .cons a r, h => .cons a (dpAll_app r h)
/-- a pair stays, where a list changes -/
theorem num_upd {K : PySem.W.Frag} {H : Hp} {l : Addr} {xs ys : List V} {x : V} {p : NP} (hl : H l = some (.lst xs)) (h : Dp K H x (nD p)) : Dp K (upd H l (.lst ys)) x (nD p) := by
  obtain ⟨q, rfl, hq⟩ := dp_num h
  refine dp_mk ?_
  rcases hq with (h | ⟨o, h⟩) | h
  · exact .inl (.inl (by rw [upd_ne (ne_of h hl (by intro z; cases z))]; exact h))
  · exact .inl (.inr ⟨o, by rw [upd_ne (ne_of h hl (by intro z; cases z))]; exact h⟩)
  · exact .inr h
theorem nums_upd {K : PySem.W.Frag} {H : Hp} {l : Addr} {us ys : List V} (hl : H l = some (.lst us)) : ∀ {xs : List V} {ps : List NP}, DpAll K H xs (ps.map nD) → DpAll K (upd H l (.lst ys)) xs (ps.map nD)
  | [], [], _ => .nil
  | _ :: _, _ :: _, .cons a r => .cons (num_upd hl a) (nums_upd hl r)
theorem next_ok {H : Hp} {p c : Addr} {n : Nat} {bound : Int} {Q : VK} {E : XK} (D : DrawAt H p c n) (hn : n < 2 ^ 30) (b0 : 0 < bound) (b1 : bound < 2 ^ 30) (h : ∀ r H', 0 ≤ r → r < bound → DrawAt H' p c (n + 1) → Kp p H H' → Q (.int r) H') : Bx (spNext [.ref p, .int bound] H Q E) :=
  ⟨p, c, n, bound, rfl, D, hn, b0, b1, fun r H' r0 r1 D' K' _ => h r H' r0 r1 D' K'⟩
/-! calls with pairs of naturals -/
theorem num_ok {K : PySem.W.Frag} {C : Addr} {H : Hp} {a b : Nat} {Q : VK} {E : XK} (ha : 0 < a) (hb : 0 < b) (za : a < 2 ^ 3000) (zb : b < 2 ^ 3000) (h : ∀ r H', Same H H' → H' r = some (.tup [.int ((red (a, b)).1 : Int), .int ((red (a, b)).2 : Int)]) → Q (.ref r) H') : Bx (spNum K C [.int (a : Int), .int (b : Int)] H Q E) := by
  have z8 : (2 : Nat) ^ 3000 ≤ 2 ^ 8000 := Nat.pow_le_pow_right (by decide) (by decide)
  refine ⟨_, _, _, _, rfl, .int _, .int _, fun a' b' e1 e2 _ => ?_, fun bad => ?_⟩
  · injection e1 with e1
    injection e2 with e2
    subst e1 e2
    refine ⟨by rw [Int.natAbs_natCast]; exact Nat.lt_of_lt_of_le za z8, by rw [Int.natAbs_natCast]; exact Nat.lt_of_lt_of_le zb z8, fun p np => ?_⟩
    rw [nrm_nat ha hb]
    exact h p _ (same_new np) upd_same
  · rcases bad with z | z | z
    · cases z
    · cases z
    · injection z with z
      omega
theorem mul_ok {K : PySem.W.Frag} {C : Addr} {H : Hp} {p q : NP} {x y : V} {Q : VK} {E : XK} (hx : Dp K H x (nD p)) (hy : Dp K H y (nD q)) (sp : Sm 3000 p) (sq : Sm 3000 q) (h : ∀ r H', Same H H' → H' r = some (.tup [.int ((red (p.1 * q.1, p.2 * q.2)).1 : Int), .int ((red (p.1 * q.1, p.2 * q.2)).2 : Int)]) → Q (.ref r) H') :
    Bx (spBin K C (fun a b c g => a * c) (fun a b c g => b * g) [x, y] H Q E) := by
  refine ⟨_, _, _, _, rfl, hx, hy, fun z => ?_, fun _ z => ?_, fun a b c g e1 e2 _ _ => ?_⟩
  · rw [low_isN sp.low] at z; cases z
  · rw [low_isN sq.low] at z; cases z
  · cases e1
    cases e2
    refine ⟨nat3 sp.la (by decide), nat3 sp.lb (by decide), nat3 sq.la (by decide), nat3 sq.lb (by decide), fun r nr => ?_⟩
    have e : nrm ((p.1 : Int) * (q.1 : Int)) ((p.2 : Int) * (q.2 : Int)) = (((red (p.1 * q.1, p.2 * q.2)).1 : Int), ((red (p.1 * q.1, p.2 * q.2)).2 : Int)) := by
      rw [← Int.natCast_mul, ← Int.natCast_mul]
      exact nrm_nat (Nat.mul_pos sp.low.a sq.low.a) (Nat.mul_pos sp.low.b sq.low.b)
    show Q (.ref r) (upd H r (.tup [.int (nrm ((p.1 : Int) * (q.1 : Int)) ((p.2 : Int) * (q.2 : Int))).1, .int (nrm ((p.1 : Int) * (q.1 : Int)) ((p.2 : Int) * (q.2 : Int))).2]))
    rw [e]
    exact h r _ (same_new nr) upd_same
theorem div_ok {K : PySem.W.Frag} {C : Addr} {H : Hp} {p q : NP} {x y : V} {Q : VK} {E : XK} (hx : Dp K H x (nD p)) (hy : Dp K H y (nD q)) (sp : Sm 3000 p) (sq : Sm 3000 q) (h : ∀ r H', Same H H' → H' r = some (.tup [.int ((red (p.1 * q.2, p.2 * q.1)).1 : Int), .int ((red (p.1 * q.2, p.2 * q.1)).2 : Int)]) → Q (.ref r) H') :
    Bx (spDiv K C [x, y] H Q E) := by
  refine ⟨_, _, _, _, rfl, hx, hy, fun z => ?_, fun _ z => ?_, fun a b c g e1 e2 _ _ => ⟨fun z => ?_, fun _ => ?_⟩⟩
  · rw [low_isN sp.low] at z; cases z
  · rw [low_isN sq.low] at z; cases z
  · cases e2
    have := sq.low.a
    omega
  · cases e1
    cases e2
    refine ⟨nat3 sp.la (by decide), nat3 sp.lb (by decide), nat3 sq.la (by decide), nat3 sq.lb (by decide), fun r nr => ?_⟩
    have e : nrm ((p.1 : Int) * (q.2 : Int)) ((p.2 : Int) * (q.1 : Int)) = (((red (p.1 * q.2, p.2 * q.1)).1 : Int), ((red (p.1 * q.2, p.2 * q.1)).2 : Int)) := by
      rw [← Int.natCast_mul, ← Int.natCast_mul]
      exact nrm_nat (Nat.mul_pos sp.low.a sq.low.b) (Nat.mul_pos sp.low.b sq.low.a)
    show Q (.ref r) (upd H r (.tup [.int (nrm ((p.1 : Int) * (q.2 : Int)) ((p.2 : Int) * (q.1 : Int))).1, .int (nrm ((p.1 : Int) * (q.2 : Int)) ((p.2 : Int) * (q.1 : Int))).2]))
    rw [e]
    exact h r _ (same_new nr) upd_same
theorem red_le (p : NP) : (red p).1 ≤ p.1 ∧ (red p).2 ≤ p.2 := ⟨Nat.div_le_self _ _, Nat.div_le_self _ _⟩
theorem red_sm {B : Nat} {a b : Nat} (ha : 0 < a) (hb : 0 < b) (za : a < 2 ^ B) (zb : b < 2 ^ B) : Sm B (red (a, b)) := ⟨red_low ha hb, Nat.lt_of_le_of_lt (red_le _).1 za, Nat.lt_of_le_of_lt (red_le _).2 zb⟩
/-! ### the law's own draws -/
def spDvs : Sp := fun vs H Q _ => ∃ x y : Nat, vs = [.int (x : Int), .int (y : Int)] ∧ Q (.int ((Nat.gcd x y : Nat) : Int)) H
def spPst : Sp := fun vs H Q _ => ∃ (p c : Addr) (n : Nat), vs = [.ref p] ∧ DrawAt H p c n ∧ n < 2 ^ 29 ∧ ∀ (i : Nat) (H' : Hp), 0 < i → i < 2 ^ 80 → DrawAt H' p c (n + 6) → Kp p H H' → Q (.int (i : Int)) H'
theorem pst_ok {H : Hp} {p c : Addr} {n : Nat} {Q : VK} {E : XK} (D : DrawAt H p c n) (hn : n < 2 ^ 29) (h : ∀ (i : Nat) (H' : Hp), 0 < i → i < 2 ^ 80 → DrawAt H' p c (n + 6) → Kp p H H' → Q (.int (i : Int)) H') : Bx (spPst [.ref p] H Q E) := ⟨p, c, n, rfl, D, hn, h⟩
/-- a list of pairs that the law made -/
def Lp (K : PySem.W.Frag) (H : Hp) (l : Addr) (ps : List NP) : Prop := ∃ xs, H l = some (.lst xs) ∧ DpAll K H xs (ps.map nD)
def spSome (K : PySem.W.Frag) : Sp := fun vs H Q _ => ∃ (p c : Addr) (n : Nat), vs = [.ref p] ∧ DrawAt H p c n ∧ n < 2 ^ 28 ∧
  ∀ (l : Addr) (ps : List NP) (H' : Hp), ps ≠ [] → ps.length ≤ 4 → (∀ q ∈ ps, Sm 90 q) → DrawAt H' p c (n + 80) → Kp p H H' → Lp K H' l ps → Q (.ref l) H'
theorem gStep {g r : Int} {i : Nat} (h0 : 0 < g) (h1 : g.natAbs < 2 ^ (6 + 30 * i)) (r0 : 0 ≤ r) (r1 : r < 1000) : 0 < g * 10 ^ 9 + r ∧ (g * 10 ^ 9 + r).natAbs < 2 ^ (6 + 30 * (i + 1)) := by
  have e : (10 : Int) ^ 9 = 1000000000 := by decide
  rw [e]
  have e2 : 6 + 30 * (i + 1) = (6 + 30 * i) + 30 := by omega
  rw [e2, Nat.pow_add]
  generalize hX : 2 ^ (6 + 30 * i) = X at h1 ⊢
  have hp : 0 < X := by
    rw [← hX]
    exact Nat.pow_pos (by decide)
  omega
section
variable {P : Program} {w : World} {K : PySem.W.Frag} {mg : Str → Option Value} {base : Heap} {C fNx fPs fNum fMul : Addr} {fdNx fdPs fdNum fdMul : FuncData}
theorem scDv : FnScope ["one", "other"] ["one", "other"] (defScope sDvs) := ⟨rfl, rfl, rfl, by decide +kernel, rfl, by decide +kernel, by decide +kernel⟩
theorem ok_dvs {f : Addr} {fd : FuncData} (F : Fun K "_law_divisor" "_law_divisor" sDvs f fd) : FnG P w K mg base 1 f fd ["one", "other"] spDvs := by
  refine okG F scDv (fun vs H Q E h => ?_) (fun cdv A outer s H vs Q E hr hgd h => ?_)
  · obtain ⟨i, j, rfl, _⟩ := h
    rfl
  · obtain ⟨i, j, rfl, fin⟩ := h
    refine ⟨_, pss_cons (ps_while PassesOwn.leaving (pt_cmpR op_ne (pv 1) pe_int (nomark _)) (pss_one (ps_par (by rfl) scDv.nd (i := 0) (j := 1) rfl rfl (by decide) rfl rfl (pa_cons (pv 1) (pa_cons (pe_op op_mod (pv 0) (pv 1)) pa_nil)) (by rfl)))) (pss_one (ps_ret (pv 0))), ?_⟩
    refine ⟨fun m σ H' => ∃ x y : Nat, σ = [some (.int (x : Int)), some (.int (y : Int))] ∧ Nat.gcd x y = Nat.gcd i j ∧ m = y ∧ H' = H, ⟨_, i, j, rfl, rfl, rfl, rfl⟩, ?_⟩
    rintro m σ H' ⟨x, y, rfl, hg, rfl, rfl⟩
    refine ⟨_, rfl, rfl, _, rfl, ?_⟩
    refine ite2 (fun hy => ?_) (fun hy => ?_)
    · have y0 : m ≠ 0 := fun z => by rw [z] at hy; exact absurd hy (by decide)
      refine ⟨fun σ' H2 => ∃ x' y' : Nat, σ' = [some (.int (x' : Int)), some (.int (y' : Int))] ∧ Nat.gcd x' y' = Nat.gcd i j ∧ y' < m ∧ H2 = H', ?_, ?_⟩
      · rintro σ' H2 ⟨x', y', rfl, g', l', rfl⟩
        exact ⟨_, l', x', y', rfl, g', rfl, rfl⟩
      · refine ⟨_, rfl, _, rfl, _, rfl, _, _, rfl, rfl, (by show (0 : Int) < (m : Int); omega), _, _, rfl, m, x % m, ?_, ?_, Nat.mod_lt _ (by omega), rfl⟩
        · rw [Int.natCast_emod]
          rfl
        · rw [← hg, Nat.gcd_comm x m, Nat.gcd_rec m x, Nat.gcd_comm]
    · have y0 : m = 0 := by
        rcases Nat.decEq m 0 with z | z
        · exact absurd (by rw [show decide (V.int (m : Int) = V.int 0) = false from decide_eq_false (fun e => z (by injection e with e; omega))]; rfl) hy
        · exact z
      subst y0
      refine ⟨_, rfl, ?_⟩
      rw [Nat.gcd_zero_right] at hg
      rw [hg]
      exact fin
structure TxtS (mg : Str → Option Value) : Prop where
  range : mg "range" = none
  rep : mg "repr" = none
  min : mg "min" = none
  len : mg "len" = none
theorem scPs : FnScope ["draw", "great", "k"] ["draw"] (defScope sPst) := ⟨rfl, rfl, rfl, by decide +kernel, rfl, by decide +kernel, by decide +kernel⟩
theorem ok_pst {f : Addr} {fd : FuncData} (F : Fun K "_law_positive" "_law_positive" sPst f fd) (T : TxtS mg) (cN : Cal P w K mg base "_law_next" fNx fdNx 2 ["draw", "bound"] (bx spNext)) :
    FnG P w K mg base 3 f fd ["draw"] spPst := by
  refine okG F scPs (fun vs H Q E h => ?_) (fun cdv A outer s H vs Q E hr hgd h => ?_)
  · obtain ⟨p, c, n, rfl, _⟩ := h
    rfl
  · obtain ⟨p, c, n, rfl, D, hn, kq⟩ := h
    refine ⟨_, pss_cons (ps_set (i := 1) scPs.nd rfl (Or.inl rfl) (pe_op op_add pe_int (pe_cal cN hr hgd (pa_cons (pv 0) (pa_cons pe_int pa_nil)))))
      (pss_cons (ps_for PassesOwn.leaving rfl (pi_range1 rfl T.range (pa_cons (pe_cal cN hr hgd (pa_cons (pv 0) (pa_cons pe_int pa_nil))) pa_nil)) (pg_name (i := 2) scPs.nd rfl (Or.inl rfl))
        (pss_one (ps_set (i := 1) scPs.nd rfl (Or.inl rfl) (pe_op op_add (pe_op op_mulW (pv 1) (pe_op op_pow pe_int pe_int)) (pe_cal cN hr hgd (pa_cons (pv 0) (pa_cons pe_int pa_nil)))))))
      (pss_one (ps_ret (pe_ix ix_list (pe_lst (pa_cons (pv 1) (pa_cons (pe_op op_add pe_int (pe_cal cN hr hgd (pa_cons (pv 0) (pa_cons pe_int pa_nil)))) (pa_cons pe_int pa_nil)))) (pe_cal cN hr hgd (pa_cons (pv 0) (pa_cons pe_int pa_nil))) (fun _ _ => rfl))))), ?_⟩
    refine ⟨_, rfl, next_ok D (by omega) (by decide) (by decide) fun r0 H0 r00 r01 D0 K0 => ?_⟩
    refine ⟨_, _, rfl, rfl, _, rfl, next_ok D0 (by omega) (by decide) (by decide) fun m H1 m0 m1 D1 K1 => ?_⟩
    refine ⟨m, rfl, by omega, by omega, for_range (lo := 0) (n := m.toNat) (fun i σ H' => ∃ (g : Int) (k : Option V), σ = [some (.ref p), some (.int g), k] ∧ 0 < g ∧ g.natAbs < 2 ^ (6 + 30 * i) ∧ DrawAt H' p c (n + 2 + i) ∧ Kp p H H')
      ⟨_, _, rfl, by omega, by show Int.natAbs (1 + r0) < 64; omega, D1, K0.trans K1⟩ (fun i σ H' hi hP => ?_) (fun σ H' hP => ?_)⟩
    · obtain ⟨g, k, rfl, g0, g1, D', K'⟩ := hP
      have hw : CMulW g (10 ^ 9) := wide_mul (Nat.lt_of_lt_of_le g1 (Nat.pow_le_pow_right (by decide) (show 6 + 30 * i ≤ 430 by omega))) (show Int.natAbs (10 ^ 9) < 2 ^ 140 by decide) (by decide) (by decide) (by decide)
      refine ⟨_, rfl, _, _, rfl, rfl, ⟨by decide, by decide⟩, ?_⟩
      refine ⟨_, _, rfl, rfl, hw, ?_⟩
      refine ⟨_, rfl, next_ok D' (by omega) (by decide) (by decide) fun r H2 r0' r1' D2 K2 => ?_⟩
      have gs := gStep g0 g1 r0' r1'
      exact ⟨_, _, rfl, rfl, _, _, rfl, gs.1, gs.2, D2, K'.trans K2⟩
    · obtain ⟨g, k, rfl, g0, g1, D', K'⟩ := hP
      have hm : m.toNat ≤ 2 := by omega
      have hg : g.natAbs < 2 ^ 80 := Nat.lt_of_lt_of_le g1 (Nat.pow_le_pow_right (by decide) (by omega))
      refine ⟨_, rfl, _, rfl, next_ok D' (by omega) (by decide) (by decide) fun r H2 r0' r1' D2 K2 => ?_⟩
      refine ⟨_, _, rfl, rfl, by rw [sizeLine_eq]; show 3 ≤ 16777216; decide, fun l nl => ?_⟩
      generalize hG : upd H2 l _ = H3
      obtain ⟨s3, h3⟩ := same_of nl hG
      clear hG
      refine ⟨_, rfl, next_ok (D2.same s3) (by omega) (by decide) (by decide) fun r' H4 r0'' r1'' D4 K4 => ?_⟩
      have hl : SqL K H4 l [V.int g, V.int (1 + r), V.int 1] := .of (K4 _ _ h3 (Ne.symm (ne_of_none D2.p.choose_spec nl)))
      have fin : ∀ i : Int, 0 < i → i.natAbs < 2 ^ 80 → Q (.int i) H4 := fun i h0 hi => by
        obtain ⟨j, rfl⟩ : ∃ j : Nat, i = (j : Int) := ⟨i.toNat, by omega⟩
        exact kq j H4 (by omega) (by omega) (D4.mono (by omega)) ((K'.trans K2).trans ((Same.kp s3).trans K4))
      have small : ∀ i : Int, i.natAbs < 40 → i.natAbs < 2 ^ 80 := fun i h => Nat.lt_of_lt_of_le h (by decide)
      rcases (by omega : r' = 0 ∨ r' = 1 ∨ r' = 2) with z | z | z
      · subst z; exact ⟨l, _, 0, _, rfl, rfl, hl, rfl, fin _ g0 hg⟩
      · subst z; exact ⟨l, _, 1, _, rfl, rfl, hl, rfl, fin _ (by omega) (small _ (by omega))⟩
      · subst z; exact ⟨l, _, 2, _, rfl, rfl, hl, rfl, fin _ (by decide) (small _ (by decide))⟩
end
end K4
set_option Elab.async false
set_option linter.all false
set_option maxRecDepth 100000
set_option maxHeartbeats 1000000
set_option exponentiation.threshold 100000
namespace K4
open PySem PySem.Spec PyProof.Rows L2 RmX Rm Mth
abbrev sMea : Stmt := top 25
abbrev sMlt : Stmt := top 26
abbrev sCop : Stmt := top 27
def vD (p : NP) : List V := [V.int (p.1 : Int), V.int (p.2 : Int)]
theorem vD_dp {K : PySem.W.Frag} {H : Hp} {r : Addr} {p : NP} (h : H r = some (.tup (vD p))) : Dp K H (.ref r) (nD p) := dp_mk (.of h)
/-- the list that the law fills -/
structure Lo (K : PySem.W.Frag) (H H' : Hp) (p c l q : Addr) (b : NP) (ps : List NP) (n : Nat) : Prop where
  l0 : H l = none
  lc : l ≠ c
  d : DrawAt H' p c n
  kp : Kp p H H'
  base : Dp K H' (.ref q) (nD b)
  lst : ∃ xs, H' l = some (.lst xs) ∧ DpAll K H' xs (ps.map nD)
theorem Lo.lp {K : PySem.W.Frag} {H H' : Hp} {p c l q : Addr} {b : NP} {ps : List NP} {n : Nat} (x : Lo K H H' p c l q b ps n) : l ≠ p := by
  obtain ⟨xs, h, _⟩ := x.lst
  obtain ⟨_, _, _, _, hp, _⟩ := x.d
  exact ne_of h hp (by intro z; cases z)
theorem Lo.go {K : PySem.W.Frag} {H H' H2 : Hp} {p c l q : Addr} {b : NP} {ps : List NP} {n m : Nat} (x : Lo K H H' p c l q b ps n) (D : DrawAt H2 p c m) (k : Kp p H' H2) : Lo K H H2 p c l q b ps m := by
  obtain ⟨xs, h, ha⟩ := x.lst
  exact ⟨x.l0, x.lc, D, x.kp.trans k, dp_kp x.d k x.base, xs, k _ _ h x.lp, dpAll_map (dp_kp x.d k) ha⟩
theorem Lo.same {K : PySem.W.Frag} {H H' H2 : Hp} {p c l q : Addr} {b : NP} {ps : List NP} {n : Nat} (x : Lo K H H' p c l q b ps n) (s : Same H' H2) : Lo K H H2 p c l q b ps n := x.go (x.d.same s) (Same.kp s)
theorem Lo.push {K : PySem.W.Frag} {H H' : Hp} {p c l q r : Addr} {b y : NP} {ps : List NP} {n : Nat} {xs : List V} (x : Lo K H H' p c l q b ps n) (h : H' l = some (.lst xs)) (ha : DpAll K H' xs (ps.map nD)) (hr : Dp K H' (.ref r) (nD y)) :
    Lo K H (upd H' l (.lst (xs ++ [.ref r]))) p c l q b (ps ++ [y]) n := by
  have lp := x.lp
  refine ⟨x.l0, x.lc, ?_, fun e o he hn => ?_, num_upd h x.base, _, upd_same, ?_⟩
  · obtain ⟨a, l', u, ns, h1, h2, h3⟩ := x.d
    exact ⟨a, l', u, ns, by rw [upd_ne (Ne.symm lp)]; exact h1, by rw [upd_ne (Ne.symm x.lc)]; exact h2, h3⟩
  · rw [upd_ne (fun z => by rw [z, x.l0] at he; cases he)]
    exact x.kp e o he hn
  · rw [List.map_append]
    exact dpAll_app (nums_upd h ha) (.cons (num_upd h hr) .nil)
section
variable {P : Program} {w : World} {K : PySem.W.Frag} {mg : Str → Option Value} {base : Heap} {C C2 fNx fPs fNum fMul fGr fDv : Addr} {fdNx fdPs fdNum fdMul fdDv : FuncData}
theorem scSm : FnScope ["draw", "base", "found", "k"] ["draw"] (defScope sSome) := ⟨rfl, rfl, rfl, by decide +kernel, rfl, by decide +kernel, by decide +kernel⟩
theorem ok_some {f : Addr} {fd : FuncData} (F : Fun K "_law_some" "_law_some" sSome f fd) (T : TxtS mg) (cN : Cal P w K mg base "_law_next" fNx fdNx 2 ["draw", "bound"] (bx spNext)) (cP : Cal P w K mg base "_law_positive" fPs fdPs 3 ["draw"] (bx spPst))
    (cU : Cal P w K mg base "number" fNum fdNum 2 ["above", "below"] (bx (spNum K C))) (cM : Cal P w K mg base "multiply" fMul fdMul 4 ["first", "second"] (bx (spBin K C (fun a b c g => a * c) (fun a b c g => b * g)))) :
    FnG P w K mg base 5 f fd ["draw"] (spSome K) := by
  refine okG F scSm (fun vs H Q E h => ?_) (fun cdv A outer s H vs Q E hr hgd h => ?_)
  · obtain ⟨p, c, n, rfl, _⟩ := h
    rfl
  · obtain ⟨p, c, n, rfl, D, hn, fin⟩ := h
    have hr2 := hr.mono (show 2 ≤ 4 by decide)
    have hr3 := hr.mono (show 3 ≤ 4 by decide)
    refine ⟨_, pss_cons (ps_set (i := 1) scSm.nd rfl (Or.inl rfl) (pe_cal cU hr2 hgd (pa_cons (pe_cal cP hr3 hgd (pa_cons (pv 0) pa_nil)) (pa_cons (pe_cal cP hr3 hgd (pa_cons (pv 0) pa_nil)) pa_nil))))
      (pss_cons (ps_set (i := 2) scSm.nd rfl (Or.inl rfl) (pe_lst pa_nil))
      (pss_cons (ps_for PassesOwn.leaving rfl (pi_range1 rfl T.range (pa_cons (pe_op op_add pe_int (pe_cal cN hr2 hgd (pa_cons (pv 0) (pa_cons pe_int pa_nil)))) pa_nil)) (pg_name (i := 3) scSm.nd rfl (Or.inl rfl))
        (pss_one (ps_if (pt_cmpR op_eq (pe_cal cN hr2 hgd (pa_cons (pv 0) (pa_cons pe_int pa_nil))) pe_int (nomark _))
          (pss_one (ps_expr (pe_bm PySem.F.plainAttrs_list PySem.F.slot_list_append PySem.F.type_list_append mt_append (pv 2) (pa_cons (pe_cal cM hr hgd (pa_cons (pv 1) (pa_cons (pe_tup (pa_cons (pe_op op_add pe_int (pe_cal cN hr2 hgd (pa_cons (pv 0) (pa_cons pe_int pa_nil)))) (pa_cons pe_int pa_nil))) pa_nil))) pa_nil))))
          (pss_one (ps_expr (pe_bm PySem.F.plainAttrs_list PySem.F.slot_list_append PySem.F.type_list_append mt_append (pv 2) (pa_cons (pe_cal cU hr2 hgd (pa_cons (pe_cal cP hr3 hgd (pa_cons (pv 0) pa_nil)) (pa_cons (pe_cal cP hr3 hgd (pa_cons (pv 0) pa_nil)) pa_nil))) pa_nil)))))))
      (pss_one (ps_ret (pv 2))))), ?_⟩
    have z80 : ∀ {i : Nat}, i < 2 ^ 80 → i < 2 ^ 3000 := fun h => Nat.lt_trans h (Nat.pow_lt_pow_right (by decide) (by decide))
    refine ⟨_, rfl, pst_ok D (by omega) fun a H1 a0 a1 D1 K1 => ?_⟩
    refine ⟨_, rfl, pst_ok D1 (by omega) fun b H2 b0 b1 D2 K2 => ?_⟩
    refine num_ok a0 b0 (z80 a1) (z80 b1) fun q H3 s3 h3 => ?_
    have sb : Sm 80 (red (a, b)) := red_sm a0 b0 a1 b1
    generalize red (a, b) = bs at h3 sb
    refine ⟨by rw [sizeLine_eq]; show 0 ≤ 16777216; decide, fun l nl => ?_⟩
    generalize hG : upd H3 l _ = H4
    obtain ⟨s4, h4⟩ := same_of nl hG
    clear hG
    have k03 : Kp p H H3 := K1.trans (K2.trans (Same.kp s3))
    have D3 := D2.same s3
    have D4 := D3.same s4
    have l0 : H l = none := by
      rcases hq : H l with _ | o
      · rfl
      · exfalso
        have lp : l ≠ p := fun z => by
          obtain ⟨o', ho'⟩ := D3.p
          rw [← z, nl] at ho'
          cases ho'
        have := k03 l o hq lp
        rw [nl] at this
        cases this
    have lc : l ≠ c := fun z => by
      obtain ⟨_, _, _, _, _, hc, _⟩ := D3
      rw [← z, nl] at hc
      cases hc
    have L4 : Lo K H H4 p c l q bs [] (n + 12) := ⟨l0, lc, D4.mono (by omega), k03.trans (Same.kp s4), dp_mk (.of (s4 _ _ h3)), [], h4, .nil⟩
    refine ⟨_, rfl, next_ok D4 (by omega) (by decide) (by decide) fun m H5 m0 m1 D5 K5 => ?_⟩
    have L5 := L4.go (D5.mono (show n + 6 + 6 + 1 ≤ n + 13 by omega)) K5
    refine ⟨_, _, rfl, rfl, 1 + m, rfl, by omega, by omega, for_range (lo := 0) (n := (1 + m).toNat) (fun i σ H' => ∃ (ps : List NP) (k : Option V), σ = [some (.ref p), some (.ref q), some (.ref l), k] ∧ ps.length = i ∧ (∀ x ∈ ps, Sm 90 x) ∧ Lo K H H' p c l q bs ps (n + 13 + 13 * i))
      ⟨[], _, rfl, rfl, (fun x hx => by cases hx), L5⟩ (fun i σ H' hi hP => ?_) (fun σ H' hP => ?_)⟩
    · obtain ⟨ps, k, rfl, hl, sm, L⟩ := hP
      have hi4 : i < 4 := by omega
      refine ⟨_, rfl, next_ok L.d (by omega) (by decide) (by decide) fun r H6 r0 r1 D6 K6 => ?_⟩
      have L6 := L.go D6 K6
      refine ⟨rfl, _, rfl, ?_⟩
      refine ite2 (fun _ => ?_) (fun _ => ?_)
      · obtain ⟨us, hus, _⟩ := L6.lst
        refine ⟨_, rfl, .inl ⟨rfl, _, .of hus⟩, _, rfl, _, rfl, next_ok D6 (by omega) (by decide) (by decide) fun g H7 g0 g1 D7 K7 => ?_⟩
        have L7 := L6.go D7 K7
        refine ⟨_, _, rfl, rfl, by rw [sizeLine_eq]; show 2 ≤ 16777216; decide, fun t nt => ?_⟩
        generalize hG : upd H7 t _ = H8
        obtain ⟨s8, h8⟩ := same_of nt hG
        clear hG nt
        have L8 := L7.same s8
        obtain ⟨gn, hgn⟩ : ∃ gn : Nat, (1 : Int) + g = (gn : Int) := ⟨(1 + g).toNat, by omega⟩
        replace h8 : H8 t = some (.tup [.int (1 + g), .int 1]) := h8
        rw [hgn] at h8
        have sg : Sm 5 (gn, 1) := ⟨⟨by show 0 < gn; omega, Nat.one_pos, Nat.gcd_one_right _⟩, by show gn < 32; omega, by show 1 < 32; decide⟩
        refine mul_ok (p := bs) (q := (gn, 1)) L8.base (dp_mk (.of h8)) (sb.mono (by decide)) (sg.mono (by decide)) fun t2 H9 s9 h9 => ?_
        have L9 := L8.same s9
        have sn : Sm 90 (red (bs.1 * gn, bs.2 * 1)) := by
          refine red_sm (Nat.mul_pos sb.low.a sg.low.a) (Nat.mul_pos sb.low.b sg.low.b) ?_ ?_
          · exact Nat.lt_of_lt_of_le (Nat.mul_lt_mul'' sb.la sg.la) (by rw [← Nat.pow_add]; exact Nat.pow_le_pow_right (by decide) (by decide))
          · rw [Nat.mul_one]
            exact Nat.lt_trans sb.lb (Nat.pow_lt_pow_right (by decide) (by decide))
        obtain ⟨us, hus, hua⟩ := L9.lst
        have len : us.length = i := by rw [dpAll_len hua, List.length_map, hl]
        refine ⟨l, us, _, rfl, rfl, hus, by rw [sizeLine_eq, len]; omega, ?_⟩
        refine ⟨ps ++ [red (bs.1 * gn, bs.2 * 1)], _, rfl, by rw [List.length_append, hl]; rfl, fun x hx => ?_, ?_⟩
        · rcases List.mem_append.mp hx with e | e
          · exact sm x e
          · rw [List.mem_singleton.mp e]
            exact sn
        · have z := L9.push hus hua (vD_dp (p := red (bs.1 * gn, bs.2 * 1)) h9)
          exact ⟨z.l0, z.lc, z.d.mono (by omega), z.kp, z.base, z.lst⟩
      · obtain ⟨us, hus, _⟩ := L6.lst
        refine ⟨_, rfl, .inl ⟨rfl, _, .of hus⟩, _, rfl, pst_ok D6 (by omega) fun a' H7 a0' a1' D7 K7 => ?_⟩
        refine ⟨_, rfl, pst_ok D7 (by omega) fun b' H8 b0' b1' D8 K8 => ?_⟩
        refine num_ok a0' b0' (z80 a1') (z80 b1') fun t2 H9 s9 h9 => ?_
        have L9 := ((L6.go D7 K7).go D8 K8).same s9
        have sn : Sm 90 (red (a', b')) := (red_sm a0' b0' a1' b1').mono (by decide)
        obtain ⟨us, hus, hua⟩ := L9.lst
        have len : us.length = i := by rw [dpAll_len hua, List.length_map, hl]
        refine ⟨l, us, _, rfl, rfl, hus, by rw [sizeLine_eq, len]; omega, ?_⟩
        refine ⟨ps ++ [red (a', b')], _, rfl, by rw [List.length_append, hl]; rfl, fun x hx => ?_, ?_⟩
        · rcases List.mem_append.mp hx with e | e
          · exact sm x e
          · rw [List.mem_singleton.mp e]
            exact sn
        · have z := L9.push hus hua (vD_dp (p := red (a', b')) h9)
          exact ⟨z.l0, z.lc, z.d.mono (by omega), z.kp, z.base, z.lst⟩
    · obtain ⟨ps, k, rfl, hl, sm, L⟩ := hP
      obtain ⟨us, hus, hua⟩ := L.lst
      refine ⟨_, rfl, fin l ps H' (fun z => by rw [z] at hl; simp at hl; omega) (by omega) sm (L.d.mono (by omega)) L.kp ⟨us, hus, hua⟩⟩
end
end K4
set_option Elab.async false
set_option linter.all false
set_option maxRecDepth 100000
set_option maxHeartbeats 1000000
set_option exponentiation.threshold 100000
namespace K4
open PySem PySem.Spec PyProof.Rows L2 RmX Rm Mth
section
variable {P : Program} {w : World} {K : PySem.W.Frag} {mg : Str → Option Value} {base : Heap} {C C2 fNx fPs fNum fMul fGr fDv : Addr} {fdNx fdPs fdNum fdMul fdDv : FuncData}
/-! ### measure and multiple, called with some numbers -/
def MsP (K : PySem.W.Frag) (C C2 : Addr) (f : List NP → NP) (vs : List V) (H : Hp) (Q : VK) (E : XK) : Prop := ∃ ds : List PyData, DpAll K H vs ds ∧ vs.length ≤ 4 ∧ (ds = [] → ∀ H', Same H H' → BadC C2 H' E) ∧
  (∀ (i : Nat) (x : V) (d : PyData), vs[i]? = some x → ds[i]? = some d → isP d = false → (∀ j : Nat, j < i → ∀ e, ds[j]? = some e → isP e = true) → Fit d ∧ ∀ H', Same H H' → Bad C x H' E) ∧
  (ds ≠ [] → (∀ d ∈ ds, isP d = true) → ∃ ps : List NP, ds = ps.map nD ∧ (∀ p ∈ ps, Sm 300 p) ∧ ∀ q H', Same H H' → H' q = some (.tup (vD (f ps))) → Q (.ref q) H')
def spMs (K : PySem.W.Frag) (C C2 : Addr) (f : List NP → NP) : Sp := fun vs H Q E => Bx (MsP K C C2 f vs H Q E)
theorem ms_of {k : Nat} {f1 f2 : Nat → Nat → Nat} {f : List NP → NP} (hf : ∀ (p : NP) (rest : List NP), f (p :: rest) = ((p :: rest).foldl (fun g q => f1 g q.1) p.1, (p :: rest).foldl (fun g q => f2 g q.2) p.2))
    (F : FnS P w K mg base k fGr (fun rest H Q E => rest.length ≤ 4 ∧ ∀ p, H p = none → spFold K C C2 f1 f2 [.ref p] (upd H p (.tup rest)) Q E)) : FnS P w K mg base k fGr (spMs K C C2 f) := by
  intro A outer s H us vs Q E hr hg e0 r h
  obtain ⟨ds, hd, len, k0, k1, k2⟩ := h.h
  refine F A outer s H us vs Q E hr hg e0 r ⟨len, fun p np => ?_⟩
  have sm := same_new (H := H) (o := .tup vs) np
  refine ⟨p, vs, ds, rfl, .of upd_same, dpAll_map (dp_same sm) hd, fun e => k0 e _ sm, fun i x d hi hdi _ hP hb => ?_, fun ne pos => ?_⟩
  · obtain ⟨ft, bd⟩ := k1 i x d hi hdi hP hb
    exact ⟨ft, bd _ sm⟩
  · obtain ⟨ps, e, szs, fin⟩ := k2 ne pos
    match ps, e with
    | [], e => exact absurd e ne
    | p0 :: rest, e =>
      refine ⟨p0 :: rest, p0.1, p0.2, rest, rfl, e, fun q hq => ⟨(szs q hq).la, (szs q hq).lb⟩, ?_, fun q nq => ?_⟩
      · have := dpAll_len hd
        rw [e, List.length_map] at this
        omega
      · refine fin q _ (same_tr sm (same_new nq)) ?_
        rw [hf]
        exact upd_same
structure CalS (P : Program) (w : World) (K : PySem.W.Frag) (mg : Str → Option Value) (base : Heap) (x : Str) (f : Addr) (k : Nat) (sp : Sp) : Prop where
  fn : FnS P w K mg base k f sp
  g : mg x = some (.ref f)
  k : PySem.W.keepIn K (.ref f) = true
def spLM (K : PySem.W.Frag) (C C2 : Addr) (f : List NP → NP) : Sp := fun vs H Q E => ∃ (l : Addr) (xs : List V), vs = [.ref l] ∧ SqL K H l xs ∧ xs ≠ [] ∧ MsP K C C2 f xs H Q E
theorem scMe : FnScope ["some"] ["some"] (defScope sMea) := ⟨rfl, rfl, rfl, by decide +kernel, rfl, by decide +kernel, by decide +kernel⟩
theorem ok_mea {f : Addr} {fd : FuncData} (F : Fun K "_law_measure" "_law_measure" sMea f fd) (T : TxtS mg) (cG : CalS P w K mg base "greatest_measure" fGr 5 (spMs K C C2 meas)) : FnG P w K mg base 6 f fd ["some"] (spLM K C C2 meas) := by
  refine okG F scMe (fun vs H Q E h => ?_) (fun cdv A outer s H vs Q E hr hgd h => ?_)
  · obtain ⟨l, xs, rfl, _⟩ := h
    rfl
  · obtain ⟨l, xs, rfl, hl, ne, hm⟩ := h
    have tk : Takes (cxOf (L2.CX P w) P w K mg base ["some"] "_law_measure" (defScope sMea) f cdv A outer s H E) (fun cls d _ H => E cls d H) := takes_of rfl rfl rfl rfl
    refine ⟨_, pss_cons (ps_if (pt_cmpR op_lt (pe_callB call_len_seq (by rfl) T.len PySem.boot_len (pa_cons (pv 0) pa_nil)) pe_int (nomark _)) (pss_one (ps_ret (pe_ifExp (pt_cmpR op_eq (pe_callB call_len_seq (by rfl) T.len PySem.boot_len (pa_cons (pv 0) pa_nil)) pe_int (nomark _)) (pe_callStar (E := WE (fun cls d _ H => E cls d H)) cG.fn hr hgd rfl cG.g cG.k (fun σ => passAt tk σ) (pa_cons (pe_ix ix_list (pv 0) pe_int (fun _ _ => rfl)) pa_nil)) (pe_callStar (E := WE (fun cls d _ H => E cls d H)) cG.fn hr hgd rfl cG.g cG.k (fun σ => passAt tk σ) (pa_cons (pe_ix ix_list (pv 0) pe_int (fun _ _ => rfl)) (pa_cons (pe_ix ix_list (pv 0) pe_int (fun _ _ => rfl)) pa_nil)))))) pss_nil)
      (pss_cons (ps_if (pt_cmpR op_eq (pe_callB call_len_seq (by rfl) T.len PySem.boot_len (pa_cons (pv 0) pa_nil)) pe_int (nomark _)) (pss_one (ps_ret (pe_callStar (E := WE (fun cls d _ H => E cls d H)) cG.fn hr hgd rfl cG.g cG.k (fun σ => passAt tk σ) (pa_cons (pe_ix ix_list (pv 0) pe_int (fun _ _ => rfl)) (pa_cons (pe_ix ix_list (pv 0) pe_int (fun _ _ => rfl)) (pa_cons (pe_ix ix_list (pv 0) pe_int (fun _ _ => rfl)) pa_nil)))))) pss_nil)
      (pss_one (ps_ret (pe_callStar (E := WE (fun cls d _ H => E cls d H)) cG.fn hr hgd rfl cG.g cG.k (fun σ => passAt tk σ) (pa_cons (pe_ix ix_list (pv 0) pe_int (fun _ _ => rfl)) (pa_cons (pe_ix ix_list (pv 0) pe_int (fun _ _ => rfl)) (pa_cons (pe_ix ix_list (pv 0) pe_int (fun _ _ => rfl)) (pa_cons (pe_ix ix_list (pv 0) pe_int (fun _ _ => rfl)) pa_nil)))))))), ?_⟩
    have l4 : xs.length ≤ 4 := by obtain ⟨_, _, l4, _⟩ := hm; exact l4
    rcases xs with _ | ⟨x0, _ | ⟨x1, _ | ⟨x2, _ | ⟨x3, _ | ⟨x4, xr⟩⟩⟩⟩⟩
    · exact absurd rfl ne
    · refine ⟨_, rfl, l, _, rfl, .inl hl, _, _, rfl, rfl, _, rfl, iteT ?_⟩
      refine ⟨_, rfl, l, _, rfl, .inl hl, rfl, _, rfl, iteT ?_⟩
      exact ⟨_, rfl, l, _, _, _, rfl, rfl, hl, rfl, ⟨hm⟩⟩
    · refine ⟨_, rfl, l, _, rfl, .inl hl, _, _, rfl, rfl, _, rfl, iteT ?_⟩
      refine ⟨_, rfl, l, _, rfl, .inl hl, rfl, _, rfl, iteF ?_⟩
      exact ⟨_, rfl, l, _, _, _, rfl, rfl, hl, rfl, _, rfl, l, _, _, _, rfl, rfl, hl, rfl, ⟨hm⟩⟩
    · refine ⟨_, rfl, l, _, rfl, .inl hl, _, _, rfl, rfl, _, rfl, iteF ?_⟩
      refine ⟨_, rfl, l, _, rfl, .inl hl, rfl, _, rfl, iteT ?_⟩
      exact ⟨_, rfl, l, _, _, _, rfl, rfl, hl, rfl, _, rfl, l, _, _, _, rfl, rfl, hl, rfl, _, rfl, l, _, _, _, rfl, rfl, hl, rfl, ⟨hm⟩⟩
    · refine ⟨_, rfl, l, _, rfl, .inl hl, _, _, rfl, rfl, _, rfl, iteF ?_⟩
      refine ⟨_, rfl, l, _, rfl, .inl hl, rfl, _, rfl, iteF ?_⟩
      exact ⟨_, rfl, l, _, _, _, rfl, rfl, hl, rfl, _, rfl, l, _, _, _, rfl, rfl, hl, rfl, _, rfl, l, _, _, _, rfl, rfl, hl, rfl, _, rfl, l, _, _, _, rfl, rfl, hl, rfl, ⟨hm⟩⟩
    · exact absurd l4 (by simp)
theorem scMl : FnScope ["some"] ["some"] (defScope sMlt) := ⟨rfl, rfl, rfl, by decide +kernel, rfl, by decide +kernel, by decide +kernel⟩
theorem ok_mlt {f : Addr} {fd : FuncData} (F : Fun K "_law_multiple" "_law_multiple" sMlt f fd) (T : TxtS mg) (cG : CalS P w K mg base "least_multiple" fGr 5 (spMs K C C2 mult)) : FnG P w K mg base 6 f fd ["some"] (spLM K C C2 mult) := by
  refine okG F scMl (fun vs H Q E h => ?_) (fun cdv A outer s H vs Q E hr hgd h => ?_)
  · obtain ⟨l, xs, rfl, _⟩ := h
    rfl
  · obtain ⟨l, xs, rfl, hl, ne, hm⟩ := h
    have tk : Takes (cxOf (L2.CX P w) P w K mg base ["some"] "_law_multiple" (defScope sMlt) f cdv A outer s H E) (fun cls d _ H => E cls d H) := takes_of rfl rfl rfl rfl
    refine ⟨_, pss_cons (ps_if (pt_cmpR op_lt (pe_callB call_len_seq (by rfl) T.len PySem.boot_len (pa_cons (pv 0) pa_nil)) pe_int (nomark _)) (pss_one (ps_ret (pe_ifExp (pt_cmpR op_eq (pe_callB call_len_seq (by rfl) T.len PySem.boot_len (pa_cons (pv 0) pa_nil)) pe_int (nomark _)) (pe_callStar (E := WE (fun cls d _ H => E cls d H)) cG.fn hr hgd rfl cG.g cG.k (fun σ => passAt tk σ) (pa_cons (pe_ix ix_list (pv 0) pe_int (fun _ _ => rfl)) pa_nil)) (pe_callStar (E := WE (fun cls d _ H => E cls d H)) cG.fn hr hgd rfl cG.g cG.k (fun σ => passAt tk σ) (pa_cons (pe_ix ix_list (pv 0) pe_int (fun _ _ => rfl)) (pa_cons (pe_ix ix_list (pv 0) pe_int (fun _ _ => rfl)) pa_nil)))))) pss_nil)
      (pss_cons (ps_if (pt_cmpR op_eq (pe_callB call_len_seq (by rfl) T.len PySem.boot_len (pa_cons (pv 0) pa_nil)) pe_int (nomark _)) (pss_one (ps_ret (pe_callStar (E := WE (fun cls d _ H => E cls d H)) cG.fn hr hgd rfl cG.g cG.k (fun σ => passAt tk σ) (pa_cons (pe_ix ix_list (pv 0) pe_int (fun _ _ => rfl)) (pa_cons (pe_ix ix_list (pv 0) pe_int (fun _ _ => rfl)) (pa_cons (pe_ix ix_list (pv 0) pe_int (fun _ _ => rfl)) pa_nil)))))) pss_nil)
      (pss_one (ps_ret (pe_callStar (E := WE (fun cls d _ H => E cls d H)) cG.fn hr hgd rfl cG.g cG.k (fun σ => passAt tk σ) (pa_cons (pe_ix ix_list (pv 0) pe_int (fun _ _ => rfl)) (pa_cons (pe_ix ix_list (pv 0) pe_int (fun _ _ => rfl)) (pa_cons (pe_ix ix_list (pv 0) pe_int (fun _ _ => rfl)) (pa_cons (pe_ix ix_list (pv 0) pe_int (fun _ _ => rfl)) pa_nil)))))))), ?_⟩
    have l4 : xs.length ≤ 4 := by obtain ⟨_, _, l4, _⟩ := hm; exact l4
    rcases xs with _ | ⟨x0, _ | ⟨x1, _ | ⟨x2, _ | ⟨x3, _ | ⟨x4, xr⟩⟩⟩⟩⟩
    · exact absurd rfl ne
    · refine ⟨_, rfl, l, _, rfl, .inl hl, _, _, rfl, rfl, _, rfl, iteT ?_⟩
      refine ⟨_, rfl, l, _, rfl, .inl hl, rfl, _, rfl, iteT ?_⟩
      exact ⟨_, rfl, l, _, _, _, rfl, rfl, hl, rfl, ⟨hm⟩⟩
    · refine ⟨_, rfl, l, _, rfl, .inl hl, _, _, rfl, rfl, _, rfl, iteT ?_⟩
      refine ⟨_, rfl, l, _, rfl, .inl hl, rfl, _, rfl, iteF ?_⟩
      exact ⟨_, rfl, l, _, _, _, rfl, rfl, hl, rfl, _, rfl, l, _, _, _, rfl, rfl, hl, rfl, ⟨hm⟩⟩
    · refine ⟨_, rfl, l, _, rfl, .inl hl, _, _, rfl, rfl, _, rfl, iteF ?_⟩
      refine ⟨_, rfl, l, _, rfl, .inl hl, rfl, _, rfl, iteT ?_⟩
      exact ⟨_, rfl, l, _, _, _, rfl, rfl, hl, rfl, _, rfl, l, _, _, _, rfl, rfl, hl, rfl, _, rfl, l, _, _, _, rfl, rfl, hl, rfl, ⟨hm⟩⟩
    · refine ⟨_, rfl, l, _, rfl, .inl hl, _, _, rfl, rfl, _, rfl, iteF ?_⟩
      refine ⟨_, rfl, l, _, rfl, .inl hl, rfl, _, rfl, iteF ?_⟩
      exact ⟨_, rfl, l, _, _, _, rfl, rfl, hl, rfl, _, rfl, l, _, _, _, rfl, rfl, hl, rfl, _, rfl, l, _, _, _, rfl, rfl, hl, rfl, _, rfl, l, _, _, _, rfl, rfl, hl, rfl, ⟨hm⟩⟩
    · exact absurd l4 (by simp)
end
end K4
set_option Elab.async false
set_option linter.all false
set_option maxRecDepth 100000
set_option maxHeartbeats 1000000
set_option exponentiation.threshold 100000
namespace K4
open PySem PySem.Spec PyProof.Rows L2 RmX Rm Mth
section
variable {P : Program} {w : World} {K : PySem.W.Frag} {mg : Str → Option Value} {base : Heap} {C C2 fNx fPs fNum fMul fGr fDv : Addr} {fdNx fdPs fdNum fdMul fdDv : FuncData}
theorem scCo : FnScope ["quotients", "found", "above", "below"] ["quotients"] (defScope sCop) := ⟨rfl, rfl, rfl, by decide +kernel, rfl, by decide +kernel, by decide +kernel⟩
def spCo (K : PySem.W.Frag) : Sp := fun vs H Q _ => ∃ (l : Addr) (ns : List Nat), vs = [.ref l] ∧ Dp K H (.ref l) (.list (ns.map fun n => nD (n, 1))) ∧ (∀ n ∈ ns, 0 < n) ∧ ns.foldl (fun g n => Nat.gcd n g) 0 = 1 ∧ Q (.bl true) H
theorem ok_cop {f : Addr} {fd : FuncData} (F : Fun K "_law_are_coprime" "_law_are_coprime" sCop f fd) (cD : Cal P w K mg base "_law_divisor" fDv fdDv 1 ["one", "other"] (bx spDvs)) : FnG P w K mg base 2 f fd ["quotients"] (spCo K) := by
  refine okG F scCo (fun vs H Q E h => ?_) (fun cdv A outer s H vs Q E hr hgd h => ?_)
  · obtain ⟨l, ns, rfl, _⟩ := h
    rfl
  · obtain ⟨l, ns, rfl, hl, pos, one, fin⟩ := h
    refine ⟨_, pss_cons (ps_set (i := 1) scCo.nd rfl (Or.inl rfl) pe_int)
      (pss_cons (ps_for PassesOwn.leaving rfl (pi_list (pv 0)) (pg_tup rfl (pgs_cons (pg_name (i := 2) scCo.nd rfl (Or.inl rfl)) (pgs_cons (pg_name (i := 3) scCo.nd rfl (Or.inl rfl)) pgs_nil)))
        (pss_cons (ps_if (PW.pt (pw_or (pt_cmpR op_ne (pv 3) pe_int (nomark _)) (pw_or1 (pt_cmpR op_lt (pv 2) pe_int (nomark _))))) (pss_one (ps_ret pe_bl)) pss_nil)
        (pss_one (ps_set (i := 1) scCo.nd rfl (Or.inl rfl) (pe_cal cD hr hgd (pa_cons (pv 2) (pa_cons (pv 1) pa_nil)))))))
      (pss_one (ps_ret (pe_cmpR op_eq (pv 1) pe_int (nomark _))))), ?_⟩
    cases hl with
    | @lst _ xs _ hq ha =>
    have len : xs.length = ns.length := by rw [dpAll_len ha, List.length_map]
    refine ⟨_, rfl, l, rfl, ⟨_, hq⟩, for_list (xs := xs) (fun i σ H' => ∃ v2 v3 : Option V, σ = [some (.ref l), some (.int (((ns.take i).foldl (fun g n => Nat.gcd n g) 0 : Nat) : Int)), v2, v3] ∧ H' = H) ⟨_, _, rfl, rfl⟩ ?_ ?_ ?_⟩
    · rintro i σ H' hi ⟨v2, v3, rfl, rfl⟩
      exact hq
    · rintro i x σ H' hi ⟨v2, v3, rfl, rfl⟩
      obtain ⟨d, h1, h2⟩ := dpAll_at ha hi
      rw [List.getElem?_map] at h1
      cases e : ns[i]? with
      | none => rw [e] at h1; cases h1
      | some n =>
        rw [e] at h1
        injection h1 with h1
        subst h1
        obtain ⟨q, rfl, hn⟩ := dp_num h2
        have n0 := pos n (List.mem_of_getElem? e)
        have tk1 : ns.take (i + 1) = ns.take i ++ [n] := by rw [List.take_succ, e]; rfl
        refine ⟨q, _, rfl, hn, rfl, _, _, rfl, _, _, rfl, rfl, ?_⟩
        refine ⟨_, rfl, rfl, _, rfl, iteNS rfl ?_⟩
        refine ⟨_, rfl, _, _, rfl, rfl, _, rfl, ?_⟩
        refine ite2 (fun hz => ?_) (fun hz => ?_)
        · have : ((n : Nat) : Int) < 1 := of_decide_eq_true hz
          omega
        · refine ⟨_, rfl, _, rfl, ⟨n, _, rfl, ?_⟩⟩
          rw [tk1, List.foldl_append]
          exact ⟨_, _, rfl, rfl⟩
    · rintro σ H' ⟨v2, v3, rfl, rfl⟩
      rw [len, List.take_length, one]
      exact ⟨_, rfl, rfl, fin⟩
end
end K4
set_option Elab.async false
set_option linter.all false
set_option maxRecDepth 100000
set_option maxHeartbeats 1000000
set_option exponentiation.threshold 100000
namespace K4
open PySem PySem.Spec PyProof.Rows L2 RmX Rm Mth
abbrev sRight : Stmt := top 28
abbrev nR : List Str := ["some", "least", "most", "twice", "scaled", "one"]
theorem scRi : FnScope nR ["some"] (defScope sRight) := ⟨rfl, rfl, rfl, by decide +kernel, rfl, by decide +kernel, by decide +kernel⟩
theorem Lp.same {K : PySem.W.Frag} {H H' : Hp} {l : Addr} {ps : List NP} (L : Lp K H l ps) (s : Same H H') : Lp K H' l ps := by
  obtain ⟨xs, h, ha⟩ := L
  exact ⟨xs, s _ _ h, dpAll_map (dp_same s) ha⟩
structure Hy (ps : List NP) : Prop where
  ne : ps ≠ []
  len : ps.length ≤ 4
  sm : ∀ p ∈ ps, Sm 90 p
theorem Hy.low {ps : List NP} (h : Hy ps) : ∀ p ∈ ps, Low p := fun p hp => (h.sm p hp).low
theorem Hy.me {ps : List NP} (h : Hy ps) : Sm 900 (meas ps) := by
  obtain ⟨a, b⟩ := meas_sz h.ne h.low (fun p hp => ⟨(h.sm p hp).la, (h.sm p hp).lb⟩) h.len
  exact ⟨meas_low h.ne h.low, Nat.lt_trans a (Nat.pow_lt_pow_right (by decide) (by decide)), Nat.lt_of_le_of_lt b (Nat.pow_lt_pow_right (by decide) (by decide))⟩
theorem Hy.mu {ps : List NP} (h : Hy ps) : Sm 900 (mult ps) := by
  obtain ⟨a, b⟩ := mult_sz h.ne h.low (fun p hp => ⟨(h.sm p hp).la, (h.sm p hp).lb⟩) h.len
  exact ⟨mult_low h.ne h.low, Nat.lt_of_le_of_lt b (Nat.pow_lt_pow_right (by decide) (by decide)), Nat.lt_trans a (Nat.pow_lt_pow_right (by decide) (by decide))⟩
structure Rs (K : PySem.W.Frag) (H : Hp) (l lq mq : Addr) (ps : List NP) : Prop where
  l : Lp K H l ps
  le : Dp K H (.ref lq) (nD (meas ps))
  mo : Dp K H (.ref mq) (nD (mult ps))
theorem Rs.same {K : PySem.W.Frag} {H H' : Hp} {l lq mq : Addr} {ps : List NP} (R : Rs K H l lq mq ps) (s : Same H H') : Rs K H' l lq mq ps := ⟨R.l.same s, dp_same s R.le, dp_same s R.mo⟩
theorem dpAll_n {K : PySem.W.Frag} {H : Hp} {xs : List V} {ps : List NP} {i : Nat} {x : V} (ha : DpAll K H xs (ps.map nD)) (hi : xs[i]? = some x) : ∃ p, ps[i]? = some p ∧ p ∈ ps ∧ Dp K H x (nD p) := by
  obtain ⟨d, h1, h2⟩ := dpAll_at ha hi
  rw [List.getElem?_map] at h1
  cases e : ps[i]? with
  | none => rw [e] at h1; cases h1
  | some p =>
    rw [e] at h1
    injection h1 with h1
    subst h1
    exact ⟨p, rfl, List.mem_of_getElem? e, h2⟩
theorem lm_ok {K : PySem.W.Frag} {C C2 : Addr} {f : List NP → NP} {v : NP} {H : Hp} {l : Addr} {ps : List NP} {Q : VK} {E : XK} (L : Lp K H l ps) (ne : ps ≠ []) (len : ps.length ≤ 4) (sm : ∀ p ∈ ps, Sm 300 p) (e : f ps = v) (h : ∀ q H', Same H H' → H' q = some (.tup (vD v)) → Q (.ref q) H') : Bx (spLM K C C2 f [.ref l] H Q E) := by
  obtain ⟨xs, hl, ha⟩ := L
  have hx := dpAll_len ha
  rw [List.length_map] at hx
  refine ⟨l, xs, rfl, .of hl, fun z => ?_, ps.map nD, ha, by omega, fun z => ?_, fun i x d hi hd hP _ => ?_, fun _ _ => ⟨ps, rfl, sm, ?_⟩⟩
  · rw [z] at hx
    exact ne (List.length_eq_zero_iff.mp hx.symm)
  · exact absurd z (by simpa using ne)
  · exfalso
    rw [List.getElem?_map] at hd
    cases ep : ps[i]? with
    | none => rw [ep] at hd; cases hd
    | some p =>
      rw [ep] at hd
      injection hd with hd
      subst hd
      rw [low_isP (sm p (List.mem_of_getElem? ep)).low] at hP
      cases hP
  · rw [e]
    exact h
theorem shpN (p : NP) : SeqAt.shaped (nD p) = true := by rfl
theorem shp2 (p q : NP) : SeqAt.shaped (.list [nD p, nD q]) = true := by rfl
theorem lay2 (p q : NP) : PyData.canLay0 (.list [nD p, nD q]) = true := by rfl
theorem layN (p : NP) : PyData.canLay0 (nD p) = true := by rfl
theorem wipe6 (a0 a1 a2 a3 a4 a5 : Option V) : wipe [a0, a1, a2, a3, a4, a5] [5] = [a0, a1, a2, a3, a4, none] := rfl
/-- a list made of a list of pairs, pair by pair -/
theorem comp_ok {K : PySem.W.Frag} {H1 : Hp} {l D : Addr} {ps : List NP} {te : TE} {a0 a1 a2 a3 a4 a5 : Option V} {Qd : Hp → Prop} (h : NP → NP) (L : Lp K H1 l ps) (len : ps.length ≤ 100) (nD' : H1 D = none)
    (elt : ∀ p ∈ ps, ∀ (x : V) (H' : Hp) (Q : VK), Same H1 H' → Dp K H' x (nD p) → (∀ r H2, Same H' H2 → H2 r = some (.tup (vD (h p))) → Q (.ref r) H2) → te [a0, a1, a2, a3, a4, some x] H' Q)
    (fin : ∀ H', Same H1 H' → Lp K H' D (ps.map h) → Qd H') : ∃ xs, H1 l = some (.lst xs) ∧ ∃ W : Nat → Nat → Hp → Prop, (∃ m, W 0 m (upd H1 D (.lst []))) ∧ ∀ i m H, W i m H →
      ((Itl K l).stop i H ∧ Qd H) ∨ ((Itl K l).go i H ∧ ∃ Nx : Hp → Prop, (∀ H', Nx H' → ∃ m', m' < m ∧ W (i + 1) m' H') ∧ ∀ x H', (Itl K l).yld i H x H' → gName 5 x (wipe [a0, a1, a2, a3, a4, a5] [5]) H' fun σ2 H2 => wipe σ2 [5] = wipe [a0, a1, a2, a3, a4, a5] [5] ∧ tYes σ2 H2 fun b H3 =>
        if b = true then te σ2 H3 fun y H4 => ∃ acc, H4 D = some (.lst acc) ∧ acc.length < sizeLine ∧ Nx (upd H4 D (.lst (acc ++ [y]))) else Nx H3) := by
  obtain ⟨xs, hl, ha⟩ := L
  have hx := dpAll_len ha
  rw [List.length_map] at hx
  refine ⟨xs, hl, lc_list (xs := xs) (fun i H' => ∃ ys, H' D = some (.lst ys) ∧ ys.length = i ∧ DpAll K H' ys (((ps.take i).map h).map nD) ∧ Same H1 H') ⟨[], upd_same, rfl, .nil, same_new nD'⟩ (fun i H hi hP => ?_) (fun i x H' hi hP => ?_) (fun H' hP => ?_)⟩
  · obtain ⟨ys, _, _, _, s⟩ := hP
    exact .of (s _ _ hl)
  · obtain ⟨ys, hD, hy, hya, s⟩ := hP
    obtain ⟨p, e, hp, hd⟩ := dpAll_n ha hi
    refine ⟨rfl, ?_⟩
    show te [a0, a1, a2, a3, a4, some x] H' _
    have il : i < xs.length := (List.getElem?_eq_some_iff.mp hi).1
    refine elt p hp x H' _ s (dp_same s hd) fun r H2 s2 h2 => ⟨ys, s2 _ _ hD, by rw [sizeLine_eq]; omega, ys ++ [.ref r], upd_same, by rw [List.length_append, hy]; rfl, ?_, fun b o hb => ?_⟩
    · have tk1 : ps.take (i + 1) = ps.take i ++ [p] := by rw [List.take_succ, e]; rfl
      rw [tk1, List.map_append, List.map_append]
      exact dpAll_app (nums_upd (s2 _ _ hD) (dpAll_map (dp_same s2) hya)) (.cons (num_upd (s2 _ _ hD) (vD_dp h2)) .nil)
    · rw [upd_ne (ne_of_none hb nD')]
      exact s2 _ _ (s _ _ hb)
  · obtain ⟨ys, hD, _, hya, s⟩ := hP
    rw [hx, List.take_length] at hya
    exact fin H' s ⟨ys, hD, hya⟩
/-- what the law calls -/
structure Ops (P : Program) (w : World) (K : PySem.W.Frag) (mg : Str → Option Value) (base : Heap) (C C2 fLM fLU fIsN fDiv fMul fCo : Addr) (fdLM fdLU fdIsN fdDiv fdMul fdCo : FuncData) : Prop where
  me : Cal P w K mg base "_law_measure" fLM fdLM 6 ["some"] (bx (spLM K C C2 meas))
  mu : Cal P w K mg base "_law_multiple" fLU fdLU 6 ["some"] (bx (spLM K C C2 mult))
  isN : Cal P w K mg base "is_number" fIsN fdIsN 2 ["thing"] (spIsN K)
  dv : Cal P w K mg base "divide" fDiv fdDiv 4 ["first", "second"] (bx (spDiv K C))
  ml : Cal P w K mg base "multiply" fMul fdMul 4 ["first", "second"] (bx (spBin K C (fun a b c g => a * c) (fun a b c g => b * g)))
  co : Cal P w K mg base "_law_are_coprime" fCo fdCo 2 ["quotients"] (bx (spCo K))
section
variable {P : Program} {w : World} {K : PySem.W.Frag} {mg : Str → Option Value} {base : Heap} {C C2 fLM fLU fIsN fDiv fMul fCo : Addr} {fdLM fdLU fdIsN fdDiv fdMul fdCo : FuncData}
theorem sc635 : Sm 6 (6, 35) := ⟨⟨by decide, by decide, by decide⟩, by decide, by decide⟩
theorem tail9 {f : Addr} {cdv : Value} {A : Around} {outer : List Env} {s : Shared} {H : Hp} {Q : VK} {E : XK} (hr : Room 6 (A.deeper (envOfC "_law_right" (defScope sRight) s.heap.objs.size f cdv))) (hgd : A.guards = some []) (O : Ops P w K mg base C C2 fLM fLU fIsN fDiv fMul fCo fdLM fdLU fdIsN fdDiv fdMul fdCo) :
    ∃ u, PSs (cxOf (L2.CX P w) P w K mg base nR "_law_right" (defScope sRight) f cdv A outer s H E) ((defBody sRight).drop 9) u ∧
      ∀ (H1 : Hp) (l lq mq : Addr) (ps : List NP) (a3 a4 a5 : Option V) (R : Rs K H1 l lq mq ps) (y : Hy ps) (fin : ∀ H', Same H1 H' → Q (.bl true) H'), u { nx := fun _ H' => Q .non H', rt := Q } [some (.ref l), some (.ref lq), some (.ref mq), a3, a4, a5] H1 := by
  have hr4 := hr.mono (show 4 ≤ 6 by decide)
  refine ⟨_, pss_cons (ps_setLc (i := 4) (own := [("one", 5)]) (g := gName 5) (tt := tYes) rfl scRi.nd rfl rfl (sw_true rfl rfl rfl (by decide +kernel)) (pi_list (pv 0)) (blkOk_by (N := nR) (sc := defScope sRight) (by decide +kernel)) (fun _ _ _ _ _ => pg_name (i := 5) scRi.nd rfl (Or.inl rfl)) (fun _ _ _ _ _ => pts_nil) (fun _ _ _ _ _ => pe_cal O.ml hr4 hgd (pa_cons (pv 5) (pa_cons (pe_tup (pa_cons pe_int (pa_cons pe_int pa_nil))) pa_nil))))
      (pss_one (ps_ret (pe_cmpR (op_eqD hr.units) (pe_lst (pa_cons (pe_cal O.me hr hgd (pa_cons (pv 4) pa_nil)) (pa_cons (pe_cal O.mu hr hgd (pa_cons (pv 4) pa_nil)) pa_nil))) (pe_lst (pa_cons (pe_cal O.ml hr4 hgd (pa_cons (pv 1) (pa_cons (pe_tup (pa_cons pe_int (pa_cons pe_int pa_nil))) pa_nil))) (pa_cons (pe_cal O.ml hr4 hgd (pa_cons (pv 2) (pa_cons (pe_tup (pa_cons pe_int (pa_cons pe_int pa_nil))) pa_nil))) pa_nil))) (nomark _)))), ?_⟩
  intro H1 l lq mq ps a3 a4 a5 R y fin
  obtain ⟨xs, hl, _⟩ := id R.l
  refine ⟨_, rfl, l, rfl, ⟨_, .of hl⟩, fun D hD => (comp_ok scl R.l (by have := y.len; omega) hD (fun p hp x H' Q' s' hx k => ?_) (fun H2 s2 L2 => ?_)).choose_spec.2⟩
  · refine ⟨_, rfl, by rw [sizeLine_eq]; show 2 ≤ 16777216; decide, fun t nt => ?_⟩
    generalize hG : upd H' t _ = H3
    obtain ⟨s3, h3⟩ := same_of nt hG
    clear hG nt
    exact mul_ok (q := (6, 35)) (dp_same s3 hx) (dp_mk (.of h3)) ((y.sm p hp).mono (by decide)) (sc635.mono (by decide)) fun r H4 s4 h4 => k r H4 (same_tr s3 s4) h4
  · have sm : ∀ p ∈ ps.map scl, Sm 300 p := fun p hp => by
      obtain ⟨q, hq, rfl⟩ := List.mem_map.mp hp
      obtain ⟨z1, z2⟩ := scl_sz (y.sm q hq).la (y.sm q hq).lb
      exact (⟨scl_low (y.low q hq), z1, z2⟩ : Sm 96 _).mono (by decide)
    have ne := map_ne (f := scl) y.ne
    have len : (ps.map scl).length ≤ 4 := by rw [List.length_map]; exact y.len
    refine ⟨_, rfl, lm_ok L2 ne len sm (meas_scl y.ne y.low) fun q1 H3 s3 h3 => ?_⟩
    refine ⟨_, rfl, lm_ok (L2.same s3) ne len sm (mult_scl y.ne y.low) fun q2 H4 s4 h4 => ?_⟩
    refine ⟨by rw [sizeLine_eq]; show 2 ≤ 16777216; decide, fun l5 nn => ?_⟩
    generalize hG : upd H4 l5 _ = H5
    obtain ⟨s5, h5⟩ := same_of nn hG
    clear hG nn
    have S5 := same_tr s2 (same_tr s3 (same_tr s4 s5))
    have R5 := R.same S5
    refine ⟨_, rfl, by rw [sizeLine_eq]; show 2 ≤ 16777216; decide, fun t nt => ?_⟩
    generalize hG : upd H5 t _ = H6
    obtain ⟨s6, h6⟩ := same_of nt hG
    clear hG nt
    have R6 := R5.same s6
    refine mul_ok (q := (6, 35)) R6.le (dp_mk (.of h6)) (y.me.mono (by decide)) (sc635.mono (by decide)) fun q3 H7 s7 h7 => ?_
    refine ⟨_, rfl, by rw [sizeLine_eq]; show 2 ≤ 16777216; decide, fun t nt => ?_⟩
    generalize hG : upd H7 t _ = H8
    obtain ⟨s8, h8⟩ := same_of nt hG
    clear hG nt
    have R8 := R6.same (same_tr s7 s8)
    refine mul_ok (q := (6, 35)) R8.mo (dp_mk (.of h8)) (y.mu.mono (by decide)) (sc635.mono (by decide)) fun q4 H9 s9 h9 => ?_
    refine ⟨by rw [sizeLine_eq]; show 2 ≤ 16777216; decide, fun l10 nn => ?_⟩
    generalize hG : upd H9 l10 _ = H10
    obtain ⟨s10, h10⟩ := same_of nn hG
    clear hG nn
    have T5 : Same H5 H10 := same_tr s6 (same_tr s7 (same_tr s8 (same_tr s9 s10)))
    refine ⟨.list [nD (scl (meas ps)), nD (scl (mult ps))], .list [nD (scl (meas ps)), nD (scl (mult ps))],
      .lst (.of (T5 _ _ h5)) (.cons (dp_same (same_tr s4 (same_tr s5 T5)) (vD_dp h3)) (.cons (dp_same (same_tr s5 T5) (vD_dp h4)) .nil)),
      .lst (.of h10) (.cons (dp_same (same_tr s8 (same_tr s9 s10)) (vD_dp (p := scl (meas ps)) h7)) (.cons (dp_same s10 (vD_dp (p := scl (mult ps)) h9)) .nil)), shp2 _ _, shp2 _ _, ?_⟩
    rw [SeqAt.eqv_refl _ (lay2 _ _)]
    exact fin _ (same_tr S5 T5)
end
end K4
set_option Elab.async false
set_option linter.all false
set_option maxRecDepth 100000
set_option maxHeartbeats 1000000
set_option exponentiation.threshold 100000
namespace K4
open PySem PySem.Spec PyProof.Rows L2 RmX Rm Mth
theorem cut_hi (ys : List V) (k : Nat) : cutV ys none (some (k : Int)) = ys.take k := by
  unfold cutV
  rw [HT.sIx_none, HT.sIx_nat]
  show (ys.take (min k ys.length - 0)) = _
  rw [Nat.sub_zero]
  rcases Nat.le_total k ys.length with h | h
  · rw [Nat.min_eq_left h]
  · rw [Nat.min_eq_right h, List.take_length, List.take_of_length_le h]
theorem dpAll_rev {K : PySem.W.Frag} {H : Hp} : ∀ {xs : List V} {ds : List PyData}, DpAll K H xs ds → DpAll K H xs.reverse ds.reverse
  | _, _, .nil => .nil
  | _, _, .cons a r => by
    rw [List.reverse_cons, List.reverse_cons]
    exact dpAll_app (dpAll_rev r) (.cons a .nil)
/-- two new lists with the same pairs -/
theorem two_ne {K : PySem.W.Frag} {H : Hp} {l1 l2 a b c d : Addr} {p q : NP} {Q : VK} (h1 : H l1 = some (.lst [.ref a, .ref b])) (h2 : H l2 = some (.lst [.ref c, .ref d])) (ha : Dp K H (.ref a) (nD p)) (hb : Dp K H (.ref b) (nD q)) (hc : Dp K H (.ref c) (nD p)) (hd : Dp K H (.ref d) (nD q)) (h : Q (.bl false) H) : rNeD K (.ref l1) (.ref l2) H Q := by
  refine ⟨_, _, .lst (.of h1) (.cons ha (.cons hb .nil)), .lst (.of h2) (.cons hc (.cons hd .nil)), shp2 _ _, shp2 _ _, ?_⟩
  rw [SeqAt.eqv_refl _ (lay2 _ _)]
  exact h
theorem one_ne {K : PySem.W.Frag} {H : Hp} {a b : Addr} {p : NP} {Q : VK} (ha : Dp K H (.ref a) (nD p)) (hb : Dp K H (.ref b) (nD p)) (h : Q (.bl false) H) : rNeD K (.ref a) (.ref b) H Q := by
  refine ⟨_, _, ha, hb, shpN _, shpN _, ?_⟩
  rw [SeqAt.eqv_refl _ (layN _)]
  exact h
section
variable {P : Program} {w : World} {K : PySem.W.Frag} {mg : Str → Option Value} {base : Heap} {C C2 fLM fLU fIsN fDiv fMul fCo : Addr} {fdLM fdLU fdIsN fdDiv fdMul fdCo : FuncData}
theorem sm300 {ps : List NP} (y : Hy ps) : ∀ p ∈ ps, Sm 300 p := fun p hp => (y.sm p hp).mono (by decide)
theorem tail7 {f : Addr} {cdv : Value} {A : Around} {outer : List Env} {s : Shared} {H : Hp} {Q : VK} {E : XK} (T : TxtS mg) (hr : Room 6 (A.deeper (envOfC "_law_right" (defScope sRight) s.heap.objs.size f cdv))) (hgd : A.guards = some []) (O : Ops P w K mg base C C2 fLM fLU fIsN fDiv fMul fCo fdLM fdLU fdIsN fdDiv fdMul fdCo) :
    ∃ u, PSs (cxOf (L2.CX P w) P w K mg base nR "_law_right" (defScope sRight) f cdv A outer s H E) ((defBody sRight).drop 7) u ∧
      ∀ (H1 : Hp) (l lq mq : Addr) (ps : List NP) (a3 a4 a5 : Option V) (R : Rs K H1 l lq mq ps) (y : Hy ps) (fin : ∀ H', Same H1 H' → Q (.bl true) H'), u { nx := fun _ H' => Q .non H', rt := Q } [some (.ref l), some (.ref lq), some (.ref mq), a3, a4, a5] H1 := by
  obtain ⟨u9, h9, k9⟩ := tail9 (outer := outer) (s := s) (H := H) (Q := Q) (E := E) hr hgd O
  refine ⟨_, pss_cons (ps_set (i := 3) scRi.nd rfl (Or.inl rfl) (pe_slice sl_list (pe_op op_catS (pv 0) (pe_slice sl_list (pv 0) po_none (po_some pe_int))) po_none (po_some pe_int)))
      (pss_cons (ps_if (PW.pt (pw_and (pt_cmpR op_lt (pe_callB call_len_seq (by rfl) T.len PySem.boot_len (pa_cons (pv 0) pa_nil)) pe_int (nomark _)) (pw_and1 (pt_cmpR (op_neD hr.units) (pe_lst (pa_cons (pe_cal O.me hr hgd (pa_cons (pv 3) pa_nil)) (pa_cons (pe_cal O.mu hr hgd (pa_cons (pv 3) pa_nil)) pa_nil))) (pe_lst (pa_cons (pv 1) (pa_cons (pv 2) pa_nil))) (nomark _))))) (pss_one (ps_ret pe_bl)) pss_nil) h9), ?_⟩
  intro H1 l lq mq ps a3 a4 a5 R y fin
  obtain ⟨xs, hl, ha⟩ := id R.l
  have hx := dpAll_len ha
  rw [List.length_map] at hx
  have l4 := y.len
  obtain ⟨x0, xr, exs⟩ : ∃ x0 xr, xs = x0 :: xr := by
    rcases xs with _ | ⟨x0, xr⟩
    · exact absurd (List.length_eq_zero_iff.mp hx.symm) y.ne
    · exact ⟨x0, xr, rfl⟩
  obtain ⟨p0, pr, eps⟩ : ∃ p0 pr, ps = p0 :: pr := by
    rcases hp : ps with _ | ⟨p0, pr⟩
    · exact absurd hp y.ne
    · exact ⟨p0, pr, rfl⟩
  have h0 : Dp K H1 x0 (nD p0) := by
    rw [exs, eps] at ha
    cases ha with
    | cons a _ => exact a
  have c1 : cutV xs none (some 1) = [x0] := by
    rw [show (1 : Int) = ((1 : Nat) : Int) from rfl, cut_hi, exs]
    rfl
  refine ⟨_, rfl, _, rfl, 1, rfl, l, xs, rfl, .of hl, fun t nt => ?_⟩
  rw [c1]
  generalize hG : upd H1 t _ = H2
  obtain ⟨s2, h2⟩ := same_of nt hG
  clear hG nt
  refine ⟨l, t, xs, [x0], rfl, rfl, .of (s2 _ _ hl), .of h2, by rw [sizeLine_eq]; show xs.length + 1 ≤ _; omega, fun t3 nt => ?_⟩
  generalize hG : upd H2 t3 _ = H3
  obtain ⟨s3, h3⟩ := same_of nt hG
  clear hG nt
  refine ⟨4, rfl, t3, _, rfl, .of h3, fun tw nt => ?_⟩
  rw [show (4 : Int) = ((4 : Nat) : Int) from rfl, cut_hi]
  generalize hG : upd H3 tw _ = H4
  obtain ⟨s4, h4⟩ := same_of nt hG
  clear hG nt
  have S4 := same_tr s2 (same_tr s3 s4)
  have R4 := R.same S4
  refine ⟨_, rfl, l, _, rfl, .inl (.of (S4 _ _ hl)), _, _, rfl, rfl, _, rfl, ?_⟩
  refine ite2 (fun hc => ?_) (fun hc => iteF (k9 H4 l lq mq ps _ _ _ R4 y fun H' s' => fin H' (same_tr S4 s')))
  have hlt : xs.length < 4 := by
    have := of_decide_eq_true hc
    omega
  have ht : (xs ++ [x0]).take 4 = xs ++ [x0] := List.take_of_length_le (by rw [List.length_append]; show xs.length + 1 ≤ 4; omega)
  rw [ht] at h4
  have Lt : Lp K H4 tw (ps ++ [p0]) := ⟨_, h4, by
    rw [List.map_append]
    exact dpAll_app (dpAll_map (dp_same S4) ha) (.cons (dp_same S4 h0) .nil)⟩
  have mem : ∀ p, p ∈ ps ++ [p0] ↔ p ∈ ps := fun p => by
    rw [eps]
    exact mem_twice p
  have len : (ps ++ [p0]).length ≤ 4 := by
    rw [List.length_append]
    show ps.length + 1 ≤ 4
    omega
  have sm : ∀ p ∈ ps ++ [p0], Sm 300 p := fun p hp => sm300 y p ((mem p).mp hp)
  have ne := ne_of_mem mem y.ne
  refine ⟨_, rfl, lm_ok Lt ne len sm (meas_mem mem y.ne) fun q1 H5 s5 h5 => ?_⟩
  refine ⟨_, rfl, lm_ok (Lt.same s5) ne len sm (mult_mem mem y.ne) fun q2 H6 s6 h6 => ?_⟩
  refine ⟨by rw [sizeLine_eq]; show 2 ≤ 16777216; decide, fun l7 nn => ?_⟩
  generalize hG : upd H6 l7 _ = H7
  obtain ⟨s7, h7⟩ := same_of nn hG
  clear hG nn
  refine ⟨_, rfl, _, rfl, by rw [sizeLine_eq]; show 2 ≤ 16777216; decide, fun l8 nn => ?_⟩
  generalize hG : upd H7 l8 _ = H8
  obtain ⟨s8, h8⟩ := same_of nn hG
  clear hG nn
  have S8 := same_tr s5 (same_tr s6 (same_tr s7 s8))
  have R8 := R4.same S8
  exact two_ne (s8 _ _ h7) h8 (dp_same (same_tr s6 (same_tr s7 s8)) (vD_dp h5)) (dp_same (same_tr s7 s8) (vD_dp h6)) R8.le R8.mo ⟨_, rfl, iteF (k9 H8 l lq mq ps _ _ _ R8 y fun H' s' => fin H' (same_tr S4 (same_tr S8 s')))⟩
theorem tail6 {f : Addr} {cdv : Value} {A : Around} {outer : List Env} {s : Shared} {H : Hp} {Q : VK} {E : XK} (T : TxtS mg) (hr : Room 6 (A.deeper (envOfC "_law_right" (defScope sRight) s.heap.objs.size f cdv))) (hgd : A.guards = some []) (O : Ops P w K mg base C C2 fLM fLU fIsN fDiv fMul fCo fdLM fdLU fdIsN fdDiv fdMul fdCo) :
    ∃ u, PSs (cxOf (L2.CX P w) P w K mg base nR "_law_right" (defScope sRight) f cdv A outer s H E) ((defBody sRight).drop 6) u ∧
      ∀ (H1 : Hp) (l lq mq : Addr) (ps : List NP) (a3 a4 a5 : Option V) (R : Rs K H1 l lq mq ps) (y : Hy ps) (fin : ∀ H', Same H1 H' → Q (.bl true) H'), u { nx := fun _ H' => Q .non H', rt := Q } [some (.ref l), some (.ref lq), some (.ref mq), a3, a4, a5] H1 := by
  have hr4 := hr.mono (show 4 ≤ 6 by decide)
  have hr2 := hr.mono (show 2 ≤ 6 by decide)
  obtain ⟨u7, h7, k7⟩ := tail7 (outer := outer) (s := s) (H := H) (Q := Q) (E := E) T hr hgd O
  refine ⟨_, pss_cons (ps_if (PW.pt (pw_and (pt_cmpR op_eq (pe_callB call_len_seq (by rfl) T.len PySem.boot_len (pa_cons (pv 0) pa_nil)) pe_int (nomark _)) (pw_and1 (pt_cmpR (op_neD hr.units) (pe_cal O.ml hr4 hgd (pa_cons (pv 1) (pa_cons (pv 2) pa_nil))) (pe_cal O.ml hr4 hgd (pa_cons (pe_ix ix_list (pv 0) pe_int (fun _ _ => rfl)) (pa_cons (pe_ix ix_list (pv 0) pe_int (fun _ _ => rfl)) pa_nil))) (nomark _))))) (pss_one (ps_ret pe_bl)) pss_nil) h7, ?_⟩
  intro H1 l lq mq ps a3 a4 a5 R y fin
  obtain ⟨xs, hl, ha⟩ := id R.l
  have hx := dpAll_len ha
  rw [List.length_map] at hx
  have l4 := y.len
  refine ⟨_, rfl, l, _, rfl, .inl (.of hl), rfl, _, rfl, ?_⟩
  refine ite2 (fun hc => ?_) (fun hc => iteF (k7 H1 l lq mq ps _ _ _ R y fin))
  have h2 : xs.length = 2 := by
    have := of_decide_eq_true hc
    injection this with this
    omega
  obtain ⟨x0, x1, exs⟩ : ∃ x0 x1, xs = [x0, x1] := by
    rcases xs with _ | ⟨x0, _ | ⟨x1, _ | ⟨x2, xr⟩⟩⟩
    · cases h2
    · cases h2
    · exact ⟨x0, x1, rfl⟩
    · simp at h2
  obtain ⟨p0, p1, eps⟩ : ∃ p0 p1, ps = [p0, p1] := by
    rcases hp : ps with _ | ⟨p0, _ | ⟨p1, _ | ⟨p2, pr⟩⟩⟩
    · rw [hp, h2] at hx; cases hx
    · rw [hp, h2] at hx; cases hx
    · exact ⟨p0, p1, rfl⟩
    · rw [hp, h2] at hx; simp at hx
  subst exs
  have sm0 : Sm 90 p0 := y.sm p0 (by rw [eps]; exact List.mem_cons_self)
  have sm1 : Sm 90 p1 := y.sm p1 (by rw [eps]; exact List.mem_cons_of_mem _ List.mem_cons_self)
  have hd : Dp K H1 x0 (nD p0) ∧ Dp K H1 x1 (nD p1) := by
    rw [eps] at ha
    cases ha with
    | cons a r => cases r with
      | cons b _ => exact ⟨a, b⟩
  refine ⟨_, rfl, _, rfl, mul_ok R.le R.mo (y.me.mono (by decide)) (y.mu.mono (by decide)) fun q1 H2 s2 h2' => ?_⟩
  refine ⟨_, rfl, l, _, _, _, rfl, rfl, .of (s2 _ _ hl), rfl, _, rfl, l, _, _, _, rfl, rfl, .of (s2 _ _ hl), rfl, ?_⟩
  refine mul_ok (dp_same s2 hd.1) (dp_same s2 hd.2) (sm0.mono (by decide)) (sm1.mono (by decide)) fun q2 H3 s3 h3 => ?_
  have e : red ((meas ps).1 * (mult ps).1, (meas ps).2 * (mult ps).2) = red (p0.1 * p1.1, p0.2 * p1.2) := by
    rw [eps, meas_mult_2]
  rw [e] at h2'
  exact one_ne (dp_same s3 (vD_dp (p := red (p0.1 * p1.1, p0.2 * p1.2)) h2')) (vD_dp (p := red (p0.1 * p1.1, p0.2 * p1.2)) h3) ⟨_, rfl, iteF (k7 H3 l lq mq ps _ _ _ (R.same (same_tr s2 s3)) y fun H' s' => fin H' (same_tr (same_tr s2 s3) s'))⟩
theorem tail5 {f : Addr} {cdv : Value} {A : Around} {outer : List Env} {s : Shared} {H : Hp} {Q : VK} {E : XK} (T : TxtS mg) (hr : Room 6 (A.deeper (envOfC "_law_right" (defScope sRight) s.heap.objs.size f cdv))) (hgd : A.guards = some []) (O : Ops P w K mg base C C2 fLM fLU fIsN fDiv fMul fCo fdLM fdLU fdIsN fdDiv fdMul fdCo) :
    ∃ u, PSs (cxOf (L2.CX P w) P w K mg base nR "_law_right" (defScope sRight) f cdv A outer s H E) ((defBody sRight).drop 5) u ∧
      ∀ (H1 : Hp) (l lq mq : Addr) (ps : List NP) (a3 a4 a5 : Option V) (R : Rs K H1 l lq mq ps) (y : Hy ps) (fin : ∀ H', Same H1 H' → Q (.bl true) H'), u { nx := fun _ H' => Q .non H', rt := Q } [some (.ref l), some (.ref lq), some (.ref mq), a3, a4, a5] H1 := by
  have hr4 := hr.mono (show 4 ≤ 6 by decide)
  have hr2 := hr.mono (show 2 ≤ 6 by decide)
  obtain ⟨u6, h6, k6⟩ := tail6 (outer := outer) (s := s) (H := H) (Q := Q) (E := E) T hr hgd O
  refine ⟨_, pss_cons (ps_if (PW.pt (pw_and (pt_cmpR op_eq (pe_callB call_len_seq (by rfl) T.len PySem.boot_len (pa_cons (pv 0) pa_nil)) pe_int (nomark _)) (pw_and1 (pt_cmpR (op_neD hr.units) (pe_lst (pa_cons (pv 1) (pa_cons (pv 2) pa_nil))) (pe_op op_rep (pv 0) pe_int) (nomark _))))) (pss_one (ps_ret pe_bl)) pss_nil) h6, ?_⟩
  intro H1 l lq mq ps a3 a4 a5 R y fin
  obtain ⟨xs, hl, ha⟩ := id R.l
  have hx := dpAll_len ha
  rw [List.length_map] at hx
  have l4 := y.len
  refine ⟨_, rfl, l, _, rfl, .inl (.of hl), rfl, _, rfl, ?_⟩
  refine ite2 (fun hc => ?_) (fun hc => iteF (k6 H1 l lq mq ps _ _ _ R y fin))
  have h1 : xs.length = 1 := by
    have := of_decide_eq_true hc
    injection this with this
    omega
  obtain ⟨x0, exs⟩ : ∃ x0, xs = [x0] := by
    rcases xs with _ | ⟨x0, _ | ⟨x1, xr⟩⟩
    · cases h1
    · exact ⟨x0, rfl⟩
    · simp at h1
  obtain ⟨p0, eps⟩ : ∃ p0, ps = [p0] := by
    rcases hp : ps with _ | ⟨p0, _ | ⟨p1, pr⟩⟩
    · rw [hp, h1] at hx; cases hx
    · exact ⟨p0, rfl⟩
    · rw [hp, h1] at hx; simp at hx
  subst exs
  have hd : Dp K H1 x0 (nD p0) := by
    rw [eps] at ha
    cases ha with
    | cons a r => exact a
  have e1 : meas ps = p0 := by rw [eps, meas_1]
  have e2 : mult ps = p0 := by rw [eps, mult_1]
  obtain ⟨q0, rfl, _⟩ := dp_num hd
  refine ⟨_, rfl, _, rfl, by rw [sizeLine_eq]; show 2 ≤ 16777216; decide, fun l2 nn => ?_⟩
  generalize hG : upd H1 l2 _ = H2
  obtain ⟨s2, h2⟩ := same_of nn hG
  clear hG nn
  refine ⟨_, rfl, l, 2, _, rfl, rfl, s2 _ _ hl, by decide, by decide, by rw [sizeLine_eq]; show 1 * 2 ≤ 16777216; decide, fun l3 nn => ?_⟩
  generalize hG : upd H2 l3 _ = H3
  obtain ⟨s3, h3⟩ := same_of nn hG
  clear hG nn
  have S3 := same_tr s2 s3
  have R3 := R.same S3
  have hd3 := dp_same S3 hd
  refine two_ne (p := p0) (q := p0) (s3 _ _ h2) h3 (by rw [← e1]; exact R3.le) (by rw [← e2]; exact R3.mo) hd3 hd3 ⟨_, rfl, iteF (k6 H3 l lq mq ps _ _ _ R3 y fun H' s' => fin H' (same_tr S3 s'))⟩
theorem tail4 {f : Addr} {cdv : Value} {A : Around} {outer : List Env} {s : Shared} {H : Hp} {Q : VK} {E : XK} (T : TxtS mg) (hr : Room 6 (A.deeper (envOfC "_law_right" (defScope sRight) s.heap.objs.size f cdv))) (hgd : A.guards = some []) (O : Ops P w K mg base C C2 fLM fLU fIsN fDiv fMul fCo fdLM fdLU fdIsN fdDiv fdMul fdCo) :
    ∃ u, PSs (cxOf (L2.CX P w) P w K mg base nR "_law_right" (defScope sRight) f cdv A outer s H E) ((defBody sRight).drop 4) u ∧
      ∀ (H1 : Hp) (l lq mq : Addr) (ps : List NP) (a3 a4 a5 : Option V) (R : Rs K H1 l lq mq ps) (y : Hy ps) (fin : ∀ H', Same H1 H' → Q (.bl true) H'), u { nx := fun _ H' => Q .non H', rt := Q } [some (.ref l), some (.ref lq), some (.ref mq), a3, a4, a5] H1 := by
  have hr4 := hr.mono (show 4 ≤ 6 by decide)
  have hr2 := hr.mono (show 2 ≤ 6 by decide)
  obtain ⟨u5, h5, k5⟩ := tail5 (outer := outer) (s := s) (H := H) (Q := Q) (E := E) T hr hgd O
  refine ⟨_, pss_cons (ps_if (pt_cmpR (op_neD hr.units) (pe_lst (pa_cons (pe_cal O.me hr hgd (pa_cons (pe_revL (pv 0)) pa_nil)) (pa_cons (pe_cal O.mu hr hgd (pa_cons (pe_revL (pv 0)) pa_nil)) pa_nil))) (pe_lst (pa_cons (pv 1) (pa_cons (pv 2) pa_nil))) (nomark _)) (pss_one (ps_ret pe_bl)) pss_nil) h5, ?_⟩
  intro H1 l lq mq ps a3 a4 a5 R y fin
  obtain ⟨xs, hl, ha⟩ := id R.l
  have hx := dpAll_len ha
  rw [List.length_map] at hx
  have l4 := y.len
  have rev : ∀ {G : Hp} {t : Addr}, Same H1 G → G t = some (.lst xs.reverse) → Lp K G t ps.reverse := fun s h => ⟨_, h, by
    rw [List.map_reverse]
    exact dpAll_rev (dpAll_map (dp_same s) ha)⟩
  have rmem := mem_rev ps
  have rne := ne_of_mem rmem y.ne
  have rlen : ps.reverse.length ≤ 4 := by rw [List.length_reverse]; exact l4
  have rsm : ∀ p ∈ ps.reverse, Sm 300 p := fun p hp => sm300 y p ((rmem p).mp hp)
  refine ⟨_, rfl, l, xs, rfl, .of hl, fun t nt => ?_⟩
  generalize hG : upd H1 t _ = H2
  obtain ⟨s2, h2⟩ := same_of nt hG
  clear hG nt
  refine lm_ok (rev s2 h2) rne rlen rsm (meas_mem rmem y.ne) fun q1 H3 s3 h3 => ?_
  have S3 := same_tr s2 s3
  refine ⟨_, rfl, l, xs, rfl, .of (S3 _ _ hl), fun t nt => ?_⟩
  generalize hG : upd H3 t _ = H4
  obtain ⟨s4, h4⟩ := same_of nt hG
  clear hG nt
  refine lm_ok (rev (same_tr S3 s4) h4) rne rlen rsm (mult_mem rmem y.ne) fun q2 H5 s5 h5 => ?_
  refine ⟨by rw [sizeLine_eq]; show 2 ≤ 16777216; decide, fun l6 nn => ?_⟩
  generalize hG : upd H5 l6 _ = H6
  obtain ⟨s6, h6⟩ := same_of nn hG
  clear hG nn
  refine ⟨_, rfl, _, rfl, by rw [sizeLine_eq]; show 2 ≤ 16777216; decide, fun l7 nn => ?_⟩
  generalize hG : upd H6 l7 _ = H7
  obtain ⟨s7, h7'⟩ := same_of nn hG
  clear hG nn
  have S7 := same_tr S3 (same_tr s4 (same_tr s5 (same_tr s6 s7)))
  have R7 := R.same S7
  refine two_ne (s7 _ _ h6) h7' (dp_same (same_tr s4 (same_tr s5 (same_tr s6 s7))) (vD_dp h3)) (dp_same (same_tr s6 s7) (vD_dp h5)) R7.le R7.mo ⟨_, rfl, iteF (k5 H7 l lq mq ps _ _ _ R7 y fun H' s' => fin H' (same_tr S7 s'))⟩
end
end K4
set_option Elab.async false
set_option linter.all false
set_option maxRecDepth 100000
set_option maxHeartbeats 1000000
set_option exponentiation.threshold 100000
namespace K4
open PySem PySem.Spec PyProof.Rows L2 RmX Rm Mth
def spRight (K : PySem.W.Frag) : Sp := fun vs H Q _ => ∃ (l : Addr) (ps : List NP), vs = [.ref l] ∧ Lp K H l ps ∧ Hy ps ∧ ∀ H', Same H H' → Q (.bl true) H'
theorem co_ok {K : PySem.W.Frag} {H : Hp} {D : Addr} {ps : List NP} {h : NP → Nat} {Q : VK} {E : XK} (L : Lp K H D (ps.map fun p => (h p, 1))) (pos : ∀ p ∈ ps, 0 < h p) (one : (ps.map h).foldl (fun g n => Nat.gcd n g) 0 = 1) (q : Q (.bl true) H) : Bx (spCo K [.ref D] H Q E) := by
  obtain ⟨xs, hx, ha⟩ := L
  refine ⟨D, ps.map h, rfl, .lst (.of hx) ?_, fun n hn => ?_, one, q⟩
  · rw [List.map_map] at ha ⊢
    exact ha
  · obtain ⟨p, hp, rfl⟩ := List.mem_map.mp hn
    exact pos p hp
section
variable {P : Program} {w : World} {K : PySem.W.Frag} {mg : Str → Option Value} {base : Heap} {C C2 fLM fLU fIsN fDiv fMul fCo : Addr} {fdLM fdLU fdIsN fdDiv fdMul fdCo : FuncData}
theorem tail2 {f : Addr} {cdv : Value} {A : Around} {outer : List Env} {s : Shared} {H : Hp} {Q : VK} {E : XK} (T : TxtS mg) (hr : Room 6 (A.deeper (envOfC "_law_right" (defScope sRight) s.heap.objs.size f cdv))) (hgd : A.guards = some []) (O : Ops P w K mg base C C2 fLM fLU fIsN fDiv fMul fCo fdLM fdLU fdIsN fdDiv fdMul fdCo) :
    ∃ u, PSs (cxOf (L2.CX P w) P w K mg base nR "_law_right" (defScope sRight) f cdv A outer s H E) ((defBody sRight).drop 2) u ∧
      ∀ (H1 : Hp) (l lq mq : Addr) (ps : List NP) (a3 a4 a5 : Option V) (R : Rs K H1 l lq mq ps) (y : Hy ps) (fin : ∀ H', Same H1 H' → Q (.bl true) H'), u { nx := fun _ H' => Q .non H', rt := Q } [some (.ref l), some (.ref lq), some (.ref mq), a3, a4, a5] H1 := by
  have hr4 := hr.mono (show 4 ≤ 6 by decide)
  have hr2 := hr.mono (show 2 ≤ 6 by decide)
  obtain ⟨u4, h4, k4⟩ := tail4 (outer := outer) (s := s) (H := H) (Q := Q) (E := E) T hr hgd O
  refine ⟨_, pss_cons (ps_if (pt_not (pt_val (pe_cal O.co hr2 hgd (pa_cons (pe_lc (own := [("one", 5)]) (g := gName 5) (tt := tYes) rfl scRi.nd (pi_list (pv 0)) (blkOk_by (N := nR) (sc := defScope sRight) (by decide +kernel)) (fun _ _ _ _ _ => pg_name (i := 5) scRi.nd rfl (Or.inl rfl)) (fun _ _ _ _ _ => pts_nil) (fun _ _ _ _ _ => pe_cal O.dv hr4 hgd (pa_cons (pv 5) (pa_cons (pv 1) pa_nil)))) pa_nil)))) (pss_one (ps_ret pe_bl)) pss_nil)
    (pss_cons (ps_if (pt_not (pt_val (pe_cal O.co hr2 hgd (pa_cons (pe_lc (own := [("one", 5)]) (g := gName 5) (tt := tYes) rfl scRi.nd (pi_list (pv 0)) (blkOk_by (N := nR) (sc := defScope sRight) (by decide +kernel)) (fun _ _ _ _ _ => pg_name (i := 5) scRi.nd rfl (Or.inl rfl)) (fun _ _ _ _ _ => pts_nil) (fun _ _ _ _ _ => pe_cal O.dv hr4 hgd (pa_cons (pv 2) (pa_cons (pv 5) pa_nil)))) pa_nil)))) (pss_one (ps_ret pe_bl)) pss_nil) h4), ?_⟩
  intro H1 l lq mq ps a3 a4 a5 R y fin
  obtain ⟨xs, hl, _⟩ := id R.l
  have l4 := y.len
  refine ⟨_, rfl, l, rfl, ⟨_, .of hl⟩, fun D hD => (comp_ok (fun p => (quo (meas ps) p, 1)) R.l (by omega) hD (fun p hp x H' Q' s' hx k => ?_) (fun H2 s2 L2 => ?_)).choose_spec.2⟩
  · refine ⟨_, rfl, _, rfl, div_ok (p := p) (q := meas ps) hx (dp_same s' R.le) ((y.sm p hp).mono (by decide)) (y.me.mono (by decide)) fun r H3 s3 h3 => k r H3 s3 ?_⟩
    rw [(meas_quo y.ne y.low hp).1] at h3
    exact h3
  · refine co_ok L2 (fun p hp => (meas_quo y.ne y.low hp).2) (meas_quo1 y.ne y.low) ⟨_, rfl, iteF ?_⟩
    have R2 := R.same s2
    obtain ⟨xs2, hl2, _⟩ := id R2.l
    refine ⟨_, rfl, l, rfl, ⟨_, .of hl2⟩, fun D hD => (comp_ok (fun p => (quo (sw (mult ps)) (sw p), 1)) R2.l (by omega) hD (fun p hp x H' Q' s' hx k => ?_) (fun H3 s3 L3 => ?_)).choose_spec.2⟩
    · refine ⟨_, rfl, _, rfl, div_ok (p := mult ps) (q := p) (dp_same s' R2.mo) hx (y.mu.mono (by decide)) ((y.sm p hp).mono (by decide)) fun r H4 s4 h4 => k r H4 s4 ?_⟩
      rw [(mult_quo y.ne y.low hp).1] at h4
      exact h4
    · refine co_ok L3 (fun p hp => (mult_quo y.ne y.low hp).2) (mult_quo1 y.ne y.low) ⟨_, rfl, iteF ?_⟩
      exact k4 H3 l lq mq ps _ _ _ (R2.same s3) y fun H' s' => fin H' (same_tr s2 (same_tr s3 s'))
theorem ok_right {f : Addr} {fd : FuncData} (F : Fun K "_law_right" "_law_right" sRight f fd) (T : TxtS mg) (O : Ops P w K mg base C C2 fLM fLU fIsN fDiv fMul fCo fdLM fdLU fdIsN fdDiv fdMul fdCo) : FnG P w K mg base 7 f fd ["some"] (spRight K) := by
  refine okG F scRi (fun vs H Q E h => ?_) (fun cdv A outer s H vs Q E hr hgd h => ?_)
  · obtain ⟨l, ps, rfl, _⟩ := h
    rfl
  · obtain ⟨l, ps, rfl, L, y, fin⟩ := h
    have hr2 := hr.mono (show 2 ≤ 6 by decide)
    obtain ⟨u2, h2, k2⟩ := tail2 (outer := outer) (s := s) (H := H) (Q := Q) (E := E) T hr hgd O
    refine ⟨_, pss_cons (ps_asg (pe_tup (pa_cons (pe_cal O.me hr hgd (pa_cons (pv 0) pa_nil)) (pa_cons (pe_cal O.mu hr hgd (pa_cons (pv 0) pa_nil)) pa_nil))) (pg_tup rfl (pgs_cons (pg_name (i := 1) scRi.nd rfl (Or.inr rfl)) (pgs_cons (pg_name (i := 2) scRi.nd rfl (Or.inr rfl)) pgs_nil))))
      (pss_cons (ps_if (PW.pt (pw_or (pt_not (pt_val (pe_cal O.isN hr2 hgd (pa_cons (pv 1) pa_nil)))) (pw_or (pt_not (pt_val (pe_cal O.isN hr2 hgd (pa_cons (pv 2) pa_nil)))) (pw_or (pt_cmpR op_lt (pe_ix ix_tup (pv 1) pe_int (fun _ _ => rfl)) pe_int (nomark _)) (pw_or1 (pt_cmpR op_lt (pe_ix ix_tup (pv 2) pe_int (fun _ _ => rfl)) pe_int (nomark _))))))) (pss_one (ps_ret pe_bl)) pss_nil) h2), ?_⟩
    refine ⟨_, rfl, lm_ok L y.ne y.len (sm300 y) rfl fun lq H1 s1 h1 => ?_⟩
    refine ⟨_, rfl, lm_ok (L.same s1) y.ne y.len (sm300 y) rfl fun mq H2 s2 h2' => ?_⟩
    refine ⟨by rw [sizeLine_eq]; show 2 ≤ 16777216; decide, fun t nt => ?_⟩
    generalize hG : upd H2 t _ = H3
    obtain ⟨s3, h3⟩ := same_of nt hG
    clear hG nt
    have S3 := same_tr s1 (same_tr s2 s3)
    have R : Rs K H3 l lq mq ps := ⟨L.same S3, dp_same (same_tr s2 s3) (vD_dp h1), dp_same s3 (vD_dp h2')⟩
    have a0 := y.me.low.a
    have b0 := y.mu.low.a
    refine ⟨t, _, rfl, .of h3, rfl, _, _, rfl, _, _, rfl, rfl, ?_⟩
    refine ⟨_, rfl, _, _, rfl, R.le, _, rfl, ?_⟩
    rw [low_isN y.me.low]
    refine iteF ⟨_, rfl, _, _, rfl, R.mo, _, rfl, ?_⟩
    rw [low_isN y.mu.low]
    refine iteF ?_
    refine ⟨_, rfl, lq, _, _, _, rfl, rfl, .of (same_tr s2 s3 _ _ h1), rfl, _, _, rfl, rfl, _, rfl, ?_⟩
    refine ite2 (fun hz => ?_) (fun _ => ?_)
    · have : (((meas ps).1 : Nat) : Int) < 1 := of_decide_eq_true hz
      omega
    · refine ⟨_, rfl, mq, _, _, _, rfl, rfl, .of (s3 _ _ h2'), rfl, _, _, rfl, rfl, _, rfl, ?_⟩
      refine ite2 (fun hz => ?_) (fun _ => ?_)
      · have : (((mult ps).1 : Nat) : Int) < 1 := of_decide_eq_true hz
        omega
      · exact k2 H3 l lq mq ps _ _ _ R y fun H' s' => fin H' (same_tr S3 s')
end
end K4
set_option Elab.async false
set_option linter.all false
set_option maxRecDepth 100000
set_option maxHeartbeats 1000000
set_option exponentiation.threshold 100000
namespace K4
open PySem PySem.Spec PyProof.Rows L2 RmX Rm Mth
abbrev sWord : Stmt := top 29
theorem ms_bad {K : PySem.W.Frag} {C C2 : Addr} {f : List NP → NP} {H : Hp} {xs : List V} {ds : List PyData} {i : Nat} {z : V} {d : PyData} {Q : VK} {E : XK} (ha : DpAll K H xs ds) (len : xs.length ≤ 4) (h1 : xs[i]? = some z) (h2 : ds[i]? = some d) (np : isP d = false) (ft : Fit d)
    (first : ∀ j : Nat, j < i → ∀ e, ds[j]? = some e → isP e = true) (b : ∀ H', Same H H' → Bad C z H' E) : MsP K C C2 f xs H Q E := by
  refine ⟨ds, ha, len, fun e => ?_, fun i' x' d' g1 g2 np' first' => ?_, fun _ all => ?_⟩
  · rw [e] at h2
    simp at h2
  · rcases Nat.lt_trichotomy i' i with h | h | h
    · rw [first i' h d' g2] at np'
      cases np'
    · subst h
      rw [h1] at g1
      rw [h2] at g2
      injection g1 with g1
      injection g2 with g2
      subst g1 g2
      exact ⟨ft, b⟩
    · rw [first' i h d h2] at np
      cases np
  · rw [all d (List.mem_of_getElem? h2)] at np
    cases np
theorem ms_nil {K : PySem.W.Frag} {C C2 : Addr} {f : List NP → NP} {H : Hp} {Q : VK} {E : XK} (b : ∀ H', Same H H' → BadC C2 H' E) : MsP K C C2 f [] H Q E :=
  ⟨[], .nil, by decide, fun _ => b, fun i x d g => by simp at g, fun e => absurd rfl e⟩
/-- what is refused, and how it is told -/
def Kind (xs : List V) (ds : List PyData) (w : Str) (z : V) : Prop := (xs = [] ∧ ds = [] ∧ w = Str.ofString "count" ∧ z = .int 0) ∨
  (w = Str.ofString "number" ∧ ∃ (i : Nat) (d : PyData), xs[i]? = some z ∧ ds[i]? = some d ∧ isP d = false ∧ Fit d ∧ ∀ j : Nat, j < i → ∀ e, ds[j]? = some e → isP e = true)
def spWord (K : PySem.W.Frag) : Sp := fun vs H Q _ => ∃ (way : Int) (l : Addr) (xs : List V) (ds : List PyData) (w : Str) (z : V), vs = [.int way, .ref l] ∧ 0 ≤ way ∧ way ≤ 1 ∧ SqL K H l xs ∧ DpAll K H xs ds ∧ SeqAt.shaped (.list ds) = true ∧ xs.length ≤ 4 ∧ Kind xs ds w z ∧
  ∀ r H', Same H H' → H' r = some (.lst [.str w, z]) → Q (.ref r) H'
structure TxtW (K : PySem.W.Frag) (mg : Str → Option Value) (C C2 cP cS cM : Addr) : Prop where
  gP : mg "PaceError" = some (.ref cP)
  gS : mg "StateError" = some (.ref cS)
  gM : mg "MissingError" = some (.ref cM)
  exm : PySem.W.exmAny K (.ref C) [.ref cP, .ref cS, .ref cM] = some true
  exm2 : PySem.W.exmAny K (.ref C2) [.ref cP, .ref cS, .ref cM] = some true
  kit : PySem.W.kitOne K (.ref C) (.ref C) = some true
  kit2 : PySem.W.kitOne K (.ref C2) (.ref C2) = some true
  kitN : PySem.W.kitOne K (.ref C) (.ref C2) = some false
theorem eqv_cons (d : PyData) (r : List PyData) : PyData.eqv (.list (d :: r)) (.list []) = false := rfl
section
variable {P : Program} {w : World} {K : PySem.W.Frag} {mg : Str → Option Value} {base : Heap} {C C2 f2 fI fNum fIsI fIsN fChk fLM fLU fGr fLe cP cS cM : Addr} {fdLM fdLU : FuncData}
theorem scWo : FnScope ["way", "some", "caught", "e"] ["way", "some"] (defScope sWord) := ⟨rfl, rfl, rfl, by decide +kernel, rfl, by decide +kernel, by decide +kernel⟩
theorem tailW {f : Addr} {cdv : Value} {A : Around} {outer : List Env} {s : Shared} {H : Hp} {Q : VK} {E : XK} (TN : TxtN P K mg C fI fNum fIsI fIsN fChk) (M : TxtM P K mg C2 f2) (W : TxtW K mg C C2 cP cS cM) :
    ∃ u, PSs (cxOf (L2.CX P w) P w K mg base ["way", "some", "caught", "e"] "_law_word" (defScope sWord) f cdv A outer s H E) ((defBody sWord).drop 2) u ∧
      (∀ (H1 : Hp) (a dx : Addr) (z : V) (b0 b1 b3 : Option V), H1 a = some (exv a C dx) → H1 dx = some (.xd [(Str.ofString "thing", z)]) → (∀ r H', Same H1 H' → H' r = some (.lst [.str (Str.ofString "number"), z]) → Q (.ref r) H') → u { nx := fun _ H' => Q .non H', rt := Q } [b0, b1, some (.ref a), b3] H1) ∧
      (∀ (H1 : Hp) (a dx : Addr) (z : V) (b0 b1 b3 : Option V), H1 a = some (exv a C2 dx) → H1 dx = some (.xd [(Str.ofString "count", z)]) → (∀ r H', Same H1 H' → H' r = some (.lst [.str (Str.ofString "count"), z]) → Q (.ref r) H') → u { nx := fun _ H' => Q .non H', rt := Q } [b0, b1, some (.ref a), b3] H1) := by
  refine ⟨_, pss_cons (ps_if (pt_cmpR op_isN (pv 2) pe_non (nomark _)) (pss_one (ps_ret (pe_lst (pa_cons pe_str pa_nil)))) pss_nil)
      (pss_cons (ps_if (pt_val (pe_callB call_isX (by rfl) TN.isi (by decide +kernel) (pa_cons (pv 2) (pa_cons (pe_glob (v := .ref C2) rfl M.gC rfl) pa_nil)))) (pss_one (ps_ret (pe_lst (pa_cons pe_str (pa_cons (pe_exf (pv 2)) pa_nil))))) pss_nil)
      (pss_one (ps_ret (pe_ifExp (pt_val (pe_callB call_isX (by rfl) TN.isi (by decide +kernel) (pa_cons (pv 2) (pa_cons (pe_glob (v := .ref C) rfl TN.gC rfl) pa_nil)))) (pe_lst (pa_cons pe_str (pa_cons (pe_exf (pv 2)) pa_nil))) (pe_lst (pa_cons pe_str pa_nil)))))), ?_, ?_⟩
  · intro H1 a dx z b0 b1 b3 ha hx fin
    refine ⟨_, rfl, rfl, _, rfl, ?_⟩
    refine ite2 (fun z => V.noConfusion (of_decide_eq_true z)) (fun _ => ?_)
    refine ⟨_, rfl, a, C, dx, fI, _, _, _, _, _, _, _, false, rfl, TN.ex, ha, ⟨_, hx⟩, .own C2, W.kitN, _, rfl, iteF ?_⟩
    refine ⟨_, rfl, a, C, dx, fI, _, _, _, _, _, _, _, true, rfl, TN.ex, ha, ⟨_, hx⟩, .own C, W.kit, _, rfl, iteT ?_⟩
    refine ⟨_, rfl, a, C, dx, fI, _, _, _, _, _, rfl, TN.ex, ha, hx, ?_⟩
    refine ⟨by rw [sizeLine_eq]; show 2 ≤ 16777216; decide, fun l nn => ?_⟩
    exact fin l _ (same_new nn) upd_same
  · intro H1 a dx z b0 b1 b3 ha hx fin
    refine ⟨_, rfl, rfl, _, rfl, ?_⟩
    refine ite2 (fun z => V.noConfusion (of_decide_eq_true z)) (fun _ => ?_)
    refine ⟨_, rfl, a, C2, dx, f2, _, _, _, _, _, _, _, true, rfl, M.ex, ha, ⟨_, hx⟩, .own C2, W.kit2, _, rfl, iteT ?_⟩
    refine ⟨_, rfl, a, C2, dx, f2, _, _, _, _, _, rfl, M.ex, ha, hx, ?_⟩
    refine ⟨by rw [sizeLine_eq]; show 2 ≤ 16777216; decide, fun l nn => ?_⟩
    exact fin l _ (same_new nn) upd_same
theorem ok_word {f : Addr} {fd : FuncData} (F : Fun K "_law_word" "_law_word" sWord f fd) (TN : TxtN P K mg C fI fNum fIsI fIsN fChk) (M : TxtM P K mg C2 f2) (W : TxtW K mg C C2 cP cS cM)
    (cM' : Cal P w K mg base "_law_measure" fLM fdLM 6 ["some"] (bx (spLM K C C2 meas))) (cU : Cal P w K mg base "_law_multiple" fLU fdLU 6 ["some"] (bx (spLM K C C2 mult)))
    (cG : CalS P w K mg base "greatest_measure" fGr 5 (spMs K C C2 meas)) (cL : CalS P w K mg base "least_multiple" fLe 5 (spMs K C C2 mult)) :
    FnG P w K mg base 7 f fd ["way", "some"] (spWord K) := by
  refine okG F scWo (fun vs H Q E h => ?_) (fun cdv A outer s H vs Q E hr hgd h => ?_)
  · obtain ⟨way, l, xs, ds, w, z, rfl, _⟩ := h
    rfl
  · obtain ⟨way, l, xs, ds, wd, z, rfl, w0, w1, hl, ha, shp, len, kind, fin⟩ := h
    have hr5 := hr.mono (show 5 ≤ 6 by decide)
    obtain ⟨uW, hW, kC, kC2⟩ := tailW (f := f) (cdv := cdv) (A := A) (outer := outer) (s := s) (H := H) (Q := Q) (E := E) (w := w) (base := base) TN M W
    refine ⟨_, pss_cons (ps_set (i := 2) scWo.nd rfl (Or.inl rfl) pe_non)
      (pss_cons (ps_try_keep (i := 3) (c1 := cP) (c2 := cS) (c3 := cM) rfl rfl scWo.nd rfl rfl rfl ⟨rfl, by decide, .inl W.gP⟩ ⟨rfl, by decide, .inl W.gS⟩ ⟨rfl, by decide, .inl W.gM⟩
        (fun W' pn xe tk po => pss_one (ps_if (pt_cmpR (r := rEqD K) (show OpR _ (compareOp .Eq) (rEqD K) from op_eqD hr.units) (pv 1) (pe_lst pa_nil) (nomark _))
          (pss_one (ps_expr (pe_ifExp (pt_cmpR op_eq (pv 0) pe_int (nomark _)) (pe_callNone (E := WE W') cG.fn hr5 hgd rfl cG.g cG.k (fun σ => passAt tk σ)) (pe_callNone (E := WE W') cL.fn hr5 hgd rfl cL.g cL.k (fun σ => passAt tk σ)))))
          (pss_one (ps_expr (pe_ifExp (pt_cmpR op_eq (pv 0) pe_int (nomark _)) (pe_callG (E := WE W') cM'.fn hr hgd rfl cM'.g cM'.k cM'.b .nil (fun σ => passAt tk σ) (pa_cons (pv 1) pa_nil)) (pe_callG (E := WE W') cU.fn hr hgd rfl cU.g cU.k cU.b .nil (fun σ => passAt tk σ) (pa_cons (pv 1) pa_nil)))))))
        (fun a oe pn => pss_one (ps_set (i := 2) scWo.nd rfl (Or.inl rfl) (pv 3))))
      hW), ?_⟩
    refine ⟨_, rfl, by rw [sizeLine_eq]; show 0 ≤ 16777216; decide, fun l0 nn => ?_⟩
    generalize hG : upd H l0 _ = H0
    obtain ⟨s0, h0⟩ := same_of nn hG
    clear hG nn
    refine ⟨.list ds, .list [], .lst (s0.seq hl) (dpAll_map (dp_same s0) ha), .lst (.of h0) .nil, shp, by rfl, _, rfl, ?_⟩
    rcases kind with ⟨rfl, rfl, rfl, rfl⟩ | ⟨rfl, i, d, k1, k2, np, ft, first⟩
    · rw [show PyData.eqv (.list []) (.list []) = true from rfl]
      refine iteT ?_
      refine ⟨_, rfl, rfl, _, rfl, ?_⟩
      refine ite2 (fun _ => ⟨ms_nil fun H1 s1 dx ndx => ?_⟩) (fun _ => ⟨ms_nil fun H1 s1 dx ndx => ?_⟩)
      · refine ⟨W.exm2, C2, dx, rfl, rfl, fun a na => ?_⟩
        refine ⟨_, rfl, na, ?_⟩
        generalize hG : upd H1 dx _ = H2 at na ⊢
        obtain ⟨s2, h2⟩ := same_of ndx hG
        clear hG
        generalize hG : upd H2 a _ = H3
        obtain ⟨s3, h3⟩ := same_of na hG
        clear hG
        exact kC2 H3 a dx (.int 0) _ _ _ h3 (s3 _ _ h2) fun r H' s' h' => fin r H' (same_tr s0 (same_tr s1 (same_tr s2 (same_tr s3 s')))) h'
      · refine ⟨W.exm2, C2, dx, rfl, rfl, fun a na => ?_⟩
        refine ⟨_, rfl, na, ?_⟩
        generalize hG : upd H1 dx _ = H2 at na ⊢
        obtain ⟨s2, h2⟩ := same_of ndx hG
        clear hG
        generalize hG : upd H2 a _ = H3
        obtain ⟨s3, h3⟩ := same_of na hG
        clear hG
        exact kC2 H3 a dx (.int 0) _ _ _ h3 (s3 _ _ h2) fun r H' s' h' => fin r H' (same_tr s0 (same_tr s1 (same_tr s2 (same_tr s3 s')))) h'
    · have de : ∃ d0 dr, ds = d0 :: dr := by
        rcases ds with _ | ⟨d0, dr⟩
        · simp at k2
        · exact ⟨d0, dr, rfl⟩
      obtain ⟨d0, dr, eds⟩ := de
      have xne : xs ≠ [] := fun e => by rw [e] at k1; simp at k1
      rw [show PyData.eqv (.list ds) (.list []) = false by rw [eds]; rfl]
      refine iteF ?_
      refine ⟨_, rfl, rfl, _, rfl, ?_⟩
      refine ite2 (fun _ => ?_) (fun _ => ?_)
      · refine ⟨_, rfl, ⟨l, xs, rfl, s0.seq hl, xne, ms_bad (dpAll_map (dp_same s0) ha) len k1 k2 np ft first fun H1 s1 dx ndx => ?_⟩⟩
        refine ⟨W.exm, C, dx, rfl, rfl, fun a na => ?_⟩
        refine ⟨_, rfl, na, ?_⟩
        generalize hG : upd H1 dx _ = H2 at na ⊢
        obtain ⟨s2, h2⟩ := same_of ndx hG
        clear hG
        generalize hG : upd H2 a _ = H3
        obtain ⟨s3, h3⟩ := same_of na hG
        clear hG
        exact kC H3 a dx z _ _ _ h3 (s3 _ _ h2) fun r H' s' h' => fin r H' (same_tr s0 (same_tr s1 (same_tr s2 (same_tr s3 s')))) h'
      · refine ⟨_, rfl, ⟨l, xs, rfl, s0.seq hl, xne, ms_bad (dpAll_map (dp_same s0) ha) len k1 k2 np ft first fun H1 s1 dx ndx => ?_⟩⟩
        refine ⟨W.exm, C, dx, rfl, rfl, fun a na => ?_⟩
        refine ⟨_, rfl, na, ?_⟩
        generalize hG : upd H1 dx _ = H2 at na ⊢
        obtain ⟨s2, h2⟩ := same_of ndx hG
        clear hG
        generalize hG : upd H2 a _ = H3
        obtain ⟨s3, h3⟩ := same_of na hG
        clear hG
        exact kC H3 a dx z _ _ _ h3 (s3 _ _ h2) fun r H' s' h' => fin r H' (same_tr s0 (same_tr s1 (same_tr s2 (same_tr s3 s')))) h'
end
end K4
set_option Elab.async false
set_option linter.all false
set_option maxRecDepth 100000
set_option maxHeartbeats 1000000
set_option exponentiation.threshold 100000
namespace K4
open PySem PySem.Spec PyProof.Rows L2 RmX Rm Mth
/-- data that can be shown and compared -/
structure Nice (d : PyData) : Prop where
  lay : PyData.canLay0 d = true
  dep : d.depth ≤ 5
  shw : d.showable = true
  nd : d.hasDict = false
  cst : cst d ≤ 20000
theorem nice_all : ∀ {ds : List PyData}, (∀ d ∈ ds, Nice d) → PyData.canLayAll0 ds = true ∧ PyData.depthAll ds ≤ 5 ∧ PyData.showableAll ds = true ∧ PyData.hasDictAll ds = false ∧ cstAll ds ≤ 20002 * ds.length
  | [], _ => ⟨rfl, by simp [PyData.depthAll], rfl, rfl, by simp [cstAll]⟩
  | d :: ds, h => by
    have a := h d List.mem_cons_self
    obtain ⟨b1, b2, b3, b4, b5⟩ := nice_all (ds := ds) fun e he => h e (List.mem_cons_of_mem _ he)
    have c := a.cst
    have e := a.dep
    refine ⟨?_, ?_, ?_, ?_, ?_⟩
    · simp only [PyData.canLayAll0, a.lay, b1, Bool.and_self]
    · simp only [PyData.depthAll]
      omega
    · simp only [PyData.showableAll, a.shw, b3, Bool.and_self]
    · simp only [PyData.hasDictAll, a.nd, b4, Bool.or_self]
    · simp only [cstAll, List.length_cons]
      omega
end K4
namespace K4
open PySem PySem.Spec PyProof.Rows L2 RmX Rm Mth
theorem nice_shp {ds : List PyData} (h : ∀ d ∈ ds, Nice d) : SeqAt.shaped (.list ds) = true := by
  obtain ⟨b1, b2, _⟩ := nice_all h
  unfold SeqAt.shaped
  rw [show PyData.canLay0 (.list ds) = true from b1, Bool.true_and]
  refine decide_eq_true ?_
  show PyData.depthAll ds + 1 ≤ 64
  omega
theorem nice_fit {ds : List PyData} (h : ∀ d ∈ ds, Nice d) (len : ds.length ≤ 40) : Fit (.list ds) := by
  obtain ⟨b1, b2, b3, b4, b5⟩ := nice_all h
  refine fit_of b3 b4 ?_ ?_
  · show PyData.depthAll ds + 1 ≤ 20
    omega
  · simp only [cst]
    omega
theorem nice_n {p : NP} (h : Sm 90 p) : Nice (nD p) := by
  have z : (2 : Nat) ^ 90 < 2 ^ 1900 := Nat.pow_lt_pow_right (by decide) (by decide)
  have s1 := sh_int (i := (p.1 : Int)) (by rw [Int.natAbs_natCast]; exact Nat.lt_trans h.la z)
  have s2 := sh_int (i := (p.2 : Int)) (by rw [Int.natAbs_natCast]; exact Nat.lt_trans h.lb z)
  refine ⟨by rfl, by show max _ (max _ _) + 1 ≤ 5; simp [PyData.depth, PyData.depthAll], ?_, by simp [nD, PyData.hasDict, PyData.hasDictAll], by simp [nD, cst, cstAll]⟩
  simp only [nD, PyData.showable, PyData.showableAll] at s1 s2 ⊢
  rw [s1, s2]
  rfl
theorem nice_ps {ps : List NP} (h : ∀ p ∈ ps, Sm 90 p) : ∀ d ∈ ps.map nD, Nice d := fun d hd => by
  obtain ⟨p, hp, rfl⟩ := List.mem_map.mp hd
  exact nice_n (h p hp)
def wdD (d : PyData) : PyData := .list [.str (Str.ofString "number"), d]
/-- an object that is no positive number -/
structure Odd (d : PyData) : Prop where
  no : isP d = false
  nc : Nice d
  sm : d.depth ≤ 2
  sc : cst d ≤ 5000
theorem Odd.wd {d : PyData} (o : Odd d) : Nice (wdD d) := by
  have a := o.nc
  have b := o.sm
  have c := o.sc
  have e : (reprText (Str.ofString "number")).length = 8 := by decide +kernel
  have f : PyData.strOk (Str.ofString "number") = true := by decide +kernel
  refine ⟨?_, ?_, ?_, ?_, ?_⟩
  · simp only [wdD, PyData.canLay0, PyData.canLayAll0, a.lay, f, Bool.and_self]
  · simp only [wdD, PyData.depth, PyData.depthAll]
    omega
  · simp only [wdD, PyData.showable, PyData.showableAll, a.shw, Bool.and_self]
  · simp only [wdD, PyData.hasDict, PyData.hasDictAll, a.nd, Bool.or_self]
  · simp only [wdD, cst, cstAll, e]
    omega
theorem Odd.fit {d : PyData} (o : Odd d) : Fit d := by
  have a := o.nc
  have b := a.dep
  have c := a.cst
  exact fit_of a.shw a.nd (by omega) (by omega)
theorem Odd.two {d : PyData} (o : Odd d) : Fit (.list [wdD d, wdD d]) := nice_fit (fun e he => by
  rcases List.mem_cons.mp he with h | h
  · rw [h]; exact o.wd
  · rw [List.mem_singleton.mp h]; exact o.wd) (by show 2 ≤ 40; decide)
theorem odd_of {d : PyData} (h0 : isP d = false) (h1 : d.showable = true) (h2 : d.hasDict = false) (h3 : d.depth ≤ 2) (h4 : cst d ≤ 5000) (h5 : PyData.canLay0 d = true) : Odd d := ⟨h0, ⟨h5, by omega, h1, h2, by omega⟩, h3, h4⟩
/-! ### lists cut and mended -/
theorem cut_lo (ys : List V) (k : Nat) : cutV ys (some (k : Int)) none = ys.drop k := by
  unfold cutV
  rw [HT.sIx_none, HT.sIx_nat]
  show (ys.drop (min k ys.length)).take (ys.length - min k ys.length) = _
  rcases Nat.le_total k ys.length with h | h
  · rw [Nat.min_eq_left h, ← List.length_drop, List.take_length]
  · rw [Nat.min_eq_right h, List.drop_length, List.drop_eq_nil_of_le h, List.take_nil]
theorem dpAll_take {K : PySem.W.Frag} {H : Hp} : ∀ {xs : List V} {ds : List PyData} (i : Nat), DpAll K H xs ds → DpAll K H (xs.take i) (ds.take i)
  | _, _, 0, _ => .nil
  | _, _, _ + 1, .nil => .nil
  | _, _, i + 1, .cons a r => .cons a (dpAll_take i r)
theorem dpAll_drop {K : PySem.W.Frag} {H : Hp} : ∀ {xs : List V} {ds : List PyData} (i : Nat), DpAll K H xs ds → DpAll K H (xs.drop i) (ds.drop i)
  | _, _, 0, h => h
  | _, _, _ + 1, .nil => .nil
  | _, _, i + 1, .cons a r => dpAll_drop i r
theorem word_ok {K : PySem.W.Frag} {H : Hp} {way : Int} {l : Addr} {xs : List V} {ds : List PyData} {wd : Str} {z : V} {Q : VK} {E : XK} (w0 : 0 ≤ way) (w1 : way ≤ 1) (hl : SqL K H l xs) (ha : DpAll K H xs ds) (nc : ∀ d ∈ ds, Nice d) (len : xs.length ≤ 4) (k : Kind xs ds wd z)
    (h : ∀ r H', Same H H' → H' r = some (.lst [.str wd, z]) → Q (.ref r) H') : Bx (spWord K [.int way, .ref l] H Q E) := ⟨way, l, xs, ds, wd, z, rfl, w0, w1, hl, ha, nice_shp nc, len, k, h⟩
/-- both ways are asked -/
theorem words_ok {H1 : Hp} {D : Addr} {te : TE} {a0 a1 a2 a3 a4 a5 a6 a7 a8 : Option V} {Qd : Hp → Prop} (wd : Str) (z : V) (nD' : H1 D = none)
    (elt : ∀ (way : Int) (H' : Hp) (Q : VK), 0 ≤ way → way ≤ 1 → Same H1 H' → (∀ r H2, Same H' H2 → H2 r = some (.lst [.str wd, z]) → Q (.ref r) H2) → te [a0, a1, a2, a3, a4, a5, a6, a7, some (.int way)] H' Q)
    (fin : ∀ (H' : Hp) (r0 r1 : Addr), Same H1 H' → H' D = some (.lst [.ref r0, .ref r1]) → H' r0 = some (.lst [.str wd, z]) → H' r1 = some (.lst [.str wd, z]) → Qd H') : ∃ W : Nat → Nat → Hp → Prop, (∃ m, W 0 m (upd H1 D (.lst []))) ∧ ∀ i m H, W i m H →
      ((Itr 0 2).stop i H ∧ Qd H) ∨ ((Itr 0 2).go i H ∧ ∃ Nx : Hp → Prop, (∀ H', Nx H' → ∃ m', m' < m ∧ W (i + 1) m' H') ∧ ∀ x H', (Itr 0 2).yld i H x H' → gName 8 x (wipe [a0, a1, a2, a3, a4, a5, a6, a7, a8] [8]) H' fun σ2 H2 => wipe σ2 [8] = wipe [a0, a1, a2, a3, a4, a5, a6, a7, a8] [8] ∧ tYes σ2 H2 fun b H3 =>
        if b = true then te σ2 H3 fun y H4 => ∃ acc, H4 D = some (.lst acc) ∧ acc.length < sizeLine ∧ Nx (upd H4 D (.lst (acc ++ [y]))) else Nx H3) := by
  refine lc_range (lo := 0) (n := 2) (fun i H' => ∃ rs : List Addr, H' D = some (.lst (rs.map V.ref)) ∧ rs.length = i ∧ (∀ r ∈ rs, H' r = some (.lst [.str wd, z])) ∧ Same H1 H') ⟨[], upd_same, rfl, (fun r hr => by cases hr), same_new nD'⟩ (fun i H' hi hP => ?_) (fun H' hP => ?_)
  · obtain ⟨rs, hD, hr, hw, s⟩ := hP
    refine ⟨rfl, ?_⟩
    show te [a0, a1, a2, a3, a4, a5, a6, a7, some (.int (0 + (i : Int)))] H' _
    refine elt _ H' _ (by omega) (by omega) s fun r H2 s2 h2 => ⟨rs.map V.ref, s2 _ _ hD, by rw [sizeLine_eq, List.length_map]; omega, rs ++ [r], by rw [upd_same, List.map_append]; rfl, by rw [List.length_append, hr]; rfl, fun q hq => ?_, fun b o hb => ?_⟩
    · have hq2 : H2 q = some (.lst [.str wd, z]) := by
        rcases List.mem_append.mp hq with e | e
        · exact s2 _ _ (hw q e)
        · rw [List.mem_singleton.mp e]
          exact h2
      have qD : q ≠ D := fun e => by
        rw [e, s2 _ _ hD] at hq2
        injection hq2 with hq2
        injection hq2 with hq2
        cases rs with
        | nil => cases hq2
        | cons r0 rr => cases hq2
      rw [upd_ne qD]
      exact hq2
    · rw [upd_ne (ne_of_none hb nD')]
      exact s2 _ _ (s _ _ hb)
  · obtain ⟨rs, hD, hr, hw, s⟩ := hP
    match rs, hr with
    | [r0, r1], _ => exact fin H' r0 r1 s hD (hw r0 List.mem_cons_self) (hw r1 (List.mem_cons_of_mem _ List.mem_cons_self))
end K4
set_option Elab.async false
set_option linter.all false
set_option maxRecDepth 100000
set_option maxHeartbeats 1000000
set_option exponentiation.threshold 100000
namespace K4
open PySem PySem.Spec PyProof.Rows L2 RmX Rm Mth
abbrev sLaw : Stmt := top 30
def loopOf : Stmt → List Stmt
  | .For _ _ b _ _ => b
  | _ => []
abbrev sTurn : List Stmt := loopOf ((defBody sLaw).getD 1 (.Pass ⟨0, 0, 0, 0⟩))
abbrev nL : List Str := ["script", "draw", "turn", "some", "stays", "odd", "at", "bad", "way"]
theorem scLw : FnScope nL ["script"] (defScope sLaw) := ⟨rfl, rfl, rfl, by decide +kernel, rfl, by decide +kernel, by decide +kernel⟩
theorem DrawAt.neL {H : Hp} {p c a : Addr} {n : Nat} {xs : List V} (d : DrawAt H p c n) (h : H a = some (.lst xs)) : a ≠ p := by
  obtain ⟨_, _, _, _, hp, _⟩ := d
  exact ne_of h hp (by intro z; cases z)
theorem right_ok {K : PySem.W.Frag} {H : Hp} {l : Addr} {ps : List NP} {Q : VK} {E : XK} (L : Lp K H l ps) (y : Hy ps) (h : ∀ H', Same H H' → Q (.bl true) H') : Bx (spRight K [.ref l] H Q E) := ⟨l, ps, rfl, L, y, h⟩
theorem some_ok {K : PySem.W.Frag} {H : Hp} {p c : Addr} {n : Nat} {Q : VK} {E : XK} (D : DrawAt H p c n) (hn : n < 2 ^ 28) (h : ∀ l ps H', Hy ps → DrawAt H' p c (n + 80) → Lp K H' l ps → Q (.ref l) H') : Bx (spSome K [.ref p] H Q E) :=
  ⟨p, c, n, rfl, D, hn, fun l ps H' ne len sm D' _ L => h l ps H' ⟨ne, len, sm⟩ D' L⟩
theorem begin_ok {K : PySem.W.Frag} {H : Hp} {a : Addr} {ns : List Int} {Q : VK} {E : XK} (hS : SqL K H a (ns.map V.int)) (hl : ns.length ≤ 63) (h : ∀ p c H', DrawAt H' p c 0 → Same H H' → Q (.ref p) H') : Bx (spBegin K [.ref a] H Q E) :=
  ⟨a, ns, rfl, hS, hl, h⟩
def spLaw (K : PySem.W.Frag) : Sp := fun vs H Q _ => ∃ (a : Addr) (ns : List Int), vs = [.ref a] ∧ SqL K H a (ns.map V.int) ∧ ns.length ≤ 63 ∧ ∀ H', Q (.bl true) H'
section
variable {P : Program} {w : World} {K : PySem.W.Frag} {mg : Str → Option Value} {base : Heap} {fNx fR fW fS fB : Addr} {fdNx fdR fdW fdS fdB : FuncData}
theorem tailC {f : Addr} {cdv : Value} {A : Around} {outer : List Env} {s : Shared} {H : Hp} {Q : VK} {E : XK} (T : TxtS mg) (hr : Room 7 (A.deeper (envOfC "law" (defScope sLaw) s.heap.objs.size f cdv))) (hgd : A.guards = some []) (cW : Cal P w K mg base "_law_word" fW fdW 7 ["way", "some"] (bx (spWord K))) (cN : Cal P w K mg base "_law_next" fNx fdNx 2 ["draw", "bound"] (bx spNext)) :
    ∃ u, PSs (cxOf (L2.CX P w) P w K mg base nL "law" (defScope sLaw) f cdv A outer s H E) (sTurn.drop 6) u ∧
      ∀ (D : Ends) (H1 : Hp) (p l b : Addr) (x : V) (d : PyData) (ys : List V) (es : List PyData) (a0 a2 a4 a6 a8 : Option V) (hx : Dp K H1 x d) (o : Odd d) (hb : SqL K H1 b ys) (ha : DpAll K H1 ys es) (nc : ∀ e ∈ es, Nice e) (len : ys.length ≤ 4) (kind : Kind ys es (Str.ofString "number") x)
        (fin : ∀ H', Same H1 H' → D.nx [a0, some (.ref p), a2, some (.ref l), a4, some x, a6, some (.ref b), a8] H'), u D [a0, some (.ref p), a2, some (.ref l), a4, some x, a6, some (.ref b), a8] H1 := by
  refine ⟨_, pss_cons (ps_if (pt_cmpR op_ne (pe_callB (call_rep hr hgd) (by rfl) T.rep (by decide +kernel) (pa_cons (pe_lc (own := [("way", 8)]) (g := gName 8) (tt := tYes) rfl scLw.nd (pi_range1 rfl T.range (pa_cons pe_int pa_nil)) (blkOk_by (N := nL) (sc := defScope sLaw) (by decide +kernel)) (fun _ _ _ _ _ => pg_name (i := 8) scLw.nd rfl (Or.inl rfl)) (fun _ _ _ _ _ => pts_nil) (fun _ _ _ _ _ => pe_cal cW hr hgd (pa_cons (pv 8) (pa_cons (pv 7) pa_nil)))) pa_nil)) (pe_callB (call_rep hr hgd) (by rfl) T.rep (by decide +kernel) (pa_cons (pe_op op_rep (pe_lst (pa_cons (pe_lst (pa_cons pe_str (pa_cons (pv 5) pa_nil))) pa_nil)) pe_int) pa_nil)) (nomark _)) (pss_one (ps_ret pe_bl)) pss_nil)
      (pss_one (ps_if (pt_cmpR op_ne (pe_callB (call_rep hr hgd) (by rfl) T.rep (by decide +kernel) (pa_cons (pe_lc (own := [("way", 8)]) (g := gName 8) (tt := tYes) rfl scLw.nd (pi_range1 rfl T.range (pa_cons pe_int pa_nil)) (blkOk_by (N := nL) (sc := defScope sLaw) (by decide +kernel)) (fun _ _ _ _ _ => pg_name (i := 8) scLw.nd rfl (Or.inl rfl)) (fun _ _ _ _ _ => pts_nil) (fun _ _ _ _ _ => pe_cal cW hr hgd (pa_cons (pv 8) (pa_cons (pe_lst (pa_cons (pv 5) (pa_cons pe_non pa_nil))) pa_nil)))) pa_nil)) (pe_callB (call_rep hr hgd) (by rfl) T.rep (by decide +kernel) (pa_cons (pe_op op_rep (pe_lst (pa_cons (pe_lst (pa_cons pe_str (pa_cons (pv 5) pa_nil))) pa_nil)) pe_int) pa_nil)) (nomark _)) (pss_one (ps_ret pe_bl)) pss_nil)), ?_⟩
  intro D H1 p l b x d ys es a0 a2 a4 a6 a8 hx o hb ha nc len kind fin
  refine ⟨2, rfl, by decide, by decide, fun D0 nD => words_ok (Str.ofString "number") x nD (fun way H' Q' g0 g1 s' k => ?_) (fun H2 r0 r1 S2 hD w0 w1 => ?_)⟩
  · exact ⟨_, rfl, _, rfl, word_ok g0 g1 (s'.seq hb) (dpAll_map (dp_same s') ha) nc len kind k⟩
  · have v0 : Dp K H2 (.ref r0) (wdD d) := .lst (.of w0) (.cons (.str _) (.cons (dp_same S2 hx) .nil))
    have v1 : Dp K H2 (.ref r1) (wdD d) := .lst (.of w1) (.cons (.str _) (.cons (dp_same S2 hx) .nil))
    refine rep_ok (d := .list [wdD d, wdD d]) (.lst (.of hD) (.cons v0 (.cons v1 .nil))) o.two ?_
    refine ⟨_, rfl, by rw [sizeLine_eq]; show 2 ≤ 16777216; decide, fun l3 nn => ?_⟩
    generalize hG : upd H2 l3 _ = H3
    obtain ⟨s3, h3⟩ := same_of nn hG
    clear hG nn
    refine ⟨by rw [sizeLine_eq]; show 1 ≤ 16777216; decide, fun l4 nn => ?_⟩
    generalize hG : upd H3 l4 _ = H4
    obtain ⟨s4, h4⟩ := same_of nn hG
    clear hG nn
    refine ⟨l4, 2, _, rfl, rfl, h4, by decide, by decide, by rw [sizeLine_eq]; show 1 * 2 ≤ 16777216; decide, fun l5 nn => ?_⟩
    generalize hG : upd H4 l5 _ = H5
    obtain ⟨s5, h5⟩ := same_of nn hG
    clear hG nn
    have w2 : Dp K H5 (.ref l3) (wdD d) := .lst (.of (s5 _ _ (s4 _ _ h3))) (.cons (.str _) (.cons (dp_same (same_tr S2 (same_tr s3 (same_tr s4 s5))) hx) .nil))
    refine rep_ok (d := .list [wdD d, wdD d]) (.lst (.of h5) (.cons w2 (.cons w2 .nil))) o.two ?_
    refine ⟨rfl, _, rfl, iteNS rfl ?_⟩
    have S3 := same_tr S2 (same_tr s3 (same_tr s4 s5))
    refine ⟨2, rfl, by decide, by decide, fun D0 nD => words_ok (Str.ofString "number") x nD (fun way H' Q' g0 g1 s' k => ?_) (fun H6 r0 r1 S6 hD w0 w1 => ?_)⟩
    · refine ⟨_, rfl, _, rfl, by rw [sizeLine_eq]; show 2 ≤ 16777216; decide, fun l6 nn => ?_⟩
      generalize hG : upd H' l6 _ = H7
      obtain ⟨s7, h7⟩ := same_of nn hG
      clear hG nn
      have hx7 := dp_same (same_tr S3 (same_tr s' s7)) hx
      refine word_ok (ds := [d, .none]) g0 g1 (.of h7) (.cons hx7 (.cons .non .nil)) (fun e he => ?_) (by show 2 ≤ 4; decide) (.inr ⟨rfl, 0, d, rfl, rfl, o.no, o.fit, fun j hj => absurd hj (by omega)⟩) fun r H8 s8 h8 => k r H8 (same_tr s7 s8) h8
      rcases List.mem_cons.mp he with h | h
      · rw [h]; exact o.nc
      · rw [List.mem_singleton.mp h]
        exact ⟨rfl, by decide, rfl, rfl, by decide⟩
    · have S3' := same_tr S3 S6
      have v0 : Dp K H6 (.ref r0) (wdD d) := .lst (.of w0) (.cons (.str _) (.cons (dp_same S3' hx) .nil))
      have v1 : Dp K H6 (.ref r1) (wdD d) := .lst (.of w1) (.cons (.str _) (.cons (dp_same S3' hx) .nil))
      refine rep_ok (d := .list [wdD d, wdD d]) (.lst (.of hD) (.cons v0 (.cons v1 .nil))) o.two ?_
      have S4 := S3'
      refine ⟨_, rfl, by rw [sizeLine_eq]; show 2 ≤ 16777216; decide, fun l9 nn => ?_⟩
      generalize hG : upd H6 l9 _ = H9
      obtain ⟨s9, h9⟩ := same_of nn hG
      clear hG nn
      refine ⟨by rw [sizeLine_eq]; show 1 ≤ 16777216; decide, fun l10 nn => ?_⟩
      generalize hG : upd H9 l10 _ = H10
      obtain ⟨s10, h10⟩ := same_of nn hG
      clear hG nn
      refine ⟨l10, 2, _, rfl, rfl, h10, by decide, by decide, by rw [sizeLine_eq]; show 1 * 2 ≤ 16777216; decide, fun l11 nn => ?_⟩
      generalize hG : upd H10 l11 _ = H11
      obtain ⟨s11, h11⟩ := same_of nn hG
      clear hG nn
      have w4 : Dp K H11 (.ref l9) (wdD d) := .lst (.of (s11 _ _ (s10 _ _ h9))) (.cons (.str _) (.cons (dp_same (same_tr S4 (same_tr s9 (same_tr s10 s11))) hx) .nil))
      refine rep_ok (d := .list [wdD d, wdD d]) (.lst (.of h11) (.cons w4 (.cons w4 .nil))) o.two ?_
      refine ⟨rfl, _, rfl, iteNS rfl ?_⟩
      have S5 := same_tr S4 (same_tr s9 (same_tr s10 s11))
      exact fin _ S5
theorem tailB {f : Addr} {cdv : Value} {A : Around} {outer : List Env} {s : Shared} {H : Hp} {Q : VK} {E : XK} (T : TxtS mg) (hr : Room 7 (A.deeper (envOfC "law" (defScope sLaw) s.heap.objs.size f cdv))) (hgd : A.guards = some []) (cW : Cal P w K mg base "_law_word" fW fdW 7 ["way", "some"] (bx (spWord K))) (cN : Cal P w K mg base "_law_next" fNx fdNx 2 ["draw", "bound"] (bx spNext)) :
    ∃ u, PSs (cxOf (L2.CX P w) P w K mg base nL "law" (defScope sLaw) f cdv A outer s H E) (sTurn.drop 4) u ∧
      ∀ (D : Ends) (H1 : Hp) (p c l : Addr) (n : Nat) (x : V) (d : PyData) (ps : List NP) (a0 a2 a4 a6 a7 a8 : Option V) (Dr : DrawAt H1 p c n) (hn : n < 2 ^ 28) (hx : Dp K H1 x d) (o : Odd d) (L : Lp K H1 l ps) (y : Hy ps)
        (fin : ∀ (b6 b7 : Option V) (H' : Hp), DrawAt H' p c (n + 1) → D.nx [a0, some (.ref p), a2, some (.ref l), a4, some x, b6, b7, a8] H'), u D [a0, some (.ref p), a2, some (.ref l), a4, some x, a6, a7, a8] H1 := by
  obtain ⟨uC, hC, kC⟩ := tailC (outer := outer) (s := s) (H := H) (Q := Q) (E := E) T hr hgd cW cN
  have hr2 := hr.mono (show 2 ≤ 7 by decide)
  refine ⟨_, pss_cons (ps_set (i := 6) scLw.nd rfl (Or.inl rfl) (pe_cal cN hr2 hgd (pa_cons (pv 1) (pa_cons (pe_callB call_len_seq (by rfl) T.len PySem.boot_len (pa_cons (pv 3) pa_nil)) pa_nil))))
      (pss_cons (ps_set (i := 7) scLw.nd rfl (Or.inr rfl) (pe_op op_catS (pe_op op_catS (pe_slice sl_list (pv 3) po_none (po_some (pv 6))) (pe_lst (pa_cons (pv 5) pa_nil))) (pe_slice sl_list (pv 3) (po_some (pe_op op_add (pv 6) pe_int)) po_none))) hC), ?_⟩
  intro D H1 p c l n x d ps a0 a2 a4 a6 a7 a8 Dr hn hx o L y fin
  obtain ⟨xs, hl, ha⟩ := id L
  have hxl := dpAll_len ha
  rw [List.length_map] at hxl
  have l4 := y.len
  have l0 : 0 < xs.length := by
    rcases Nat.eq_zero_or_pos xs.length with z | z
    · exact absurd (List.length_eq_zero_iff.mp (hxl.symm.trans z)) y.ne
    · exact z
  refine ⟨_, rfl, _, rfl, l, xs, rfl, .inl (.of hl), next_ok Dr (by omega) (by omega) (by omega) fun r H2 r0 r1 D2 K2 => ?_⟩
  obtain ⟨at', rfl⟩ : ∃ k : Nat, r = (k : Int) := ⟨r.toNat, by omega⟩
  have lp : l ≠ p := Dr.neL hl
  have hl2 := K2 _ _ hl lp
  have ha2 := dpAll_map (dp_kp Dr K2) ha
  have hx2 := dp_kp Dr K2 hx
  refine ⟨_, rfl, _, rfl, (at' : Int), rfl, l, xs, rfl, .of hl2, fun t3 nn => ?_⟩
  rw [cut_hi]
  generalize hG : upd H2 t3 _ = H3
  obtain ⟨s3, h3⟩ := same_of nn hG
  clear hG nn
  refine ⟨_, rfl, by rw [sizeLine_eq]; show 1 ≤ 16777216; decide, fun t4 nn => ?_⟩
  generalize hG : upd H3 t4 _ = H4
  obtain ⟨s4, h4⟩ := same_of nn hG
  clear hG nn
  refine ⟨t3, t4, _, _, rfl, rfl, .of (s4 _ _ h3), .of h4, by rw [sizeLine_eq, List.length_take]; show min at' xs.length + 1 ≤ _; omega, fun t5 nn => ?_⟩
  generalize hG : upd H4 t5 _ = H5
  obtain ⟨s5, h5⟩ := same_of nn hG
  clear hG nn
  have S5 := same_tr s3 (same_tr s4 s5)
  refine ⟨_, rfl, _, rfl, _, _, rfl, rfl, ((at' + 1 : Nat) : Int), rfl, l, xs, rfl, .of (S5 _ _ hl2), fun t6 nn => ?_⟩
  rw [cut_lo]
  generalize hG : upd H5 t6 _ = H6
  obtain ⟨s6, h6⟩ := same_of nn hG
  clear hG nn
  refine ⟨t5, t6, _, _, rfl, rfl, .of (s6 _ _ h5), .of h6, by rw [sizeLine_eq, List.length_append, List.length_take, List.length_drop]; show min at' xs.length + 1 + (xs.length - (at' + 1)) ≤ _; omega, fun t7 nn => ?_⟩
  generalize hG : upd H6 t7 _ = H7
  obtain ⟨s7, h7⟩ := same_of nn hG
  clear hG nn
  have S7 := same_tr S5 (same_tr s6 s7)
  have hx7 := dp_same S7 hx2
  have ha7 := dpAll_map (dp_same S7) ha2
  have la : at' < xs.length := by omega
  refine kC _ H7 p l t7 x d (xs.take at' ++ [x] ++ xs.drop (at' + 1)) ((ps.map nD).take at' ++ [d] ++ (ps.map nD).drop (at' + 1)) _ _ _ _ _ hx7 o (.of h7) (dpAll_app (dpAll_app (dpAll_take _ ha7) (.cons hx7 .nil)) (dpAll_drop _ ha7)) (fun e he => ?_) ?_ (.inr ⟨rfl, at', d, ?_, ?_, o.no, o.fit, fun j hj e he => ?_⟩) fun H8 s8 => fin _ _ H8 ((D2.same S7).same s8)
  · rcases List.mem_append.mp he with h | h
    · rcases List.mem_append.mp h with h | h
      · exact nice_ps y.sm e (List.mem_of_mem_take h)
      · rw [List.mem_singleton.mp h]
        exact o.nc
    · exact nice_ps y.sm e (List.mem_of_mem_drop h)
  · rw [List.length_append, List.length_append, List.length_take, List.length_drop]
    show min at' xs.length + 1 + (xs.length - (at' + 1)) ≤ 4
    omega
  · rw [List.append_assoc, List.getElem?_append_right (by rw [List.length_take]; omega), List.length_take, Nat.min_eq_left (by omega), Nat.sub_self]
    rfl
  · rw [List.append_assoc, List.getElem?_append_right (by rw [List.length_take, List.length_map]; omega), List.length_take, List.length_map, Nat.min_eq_left (by omega), Nat.sub_self]
    rfl
  · rw [List.append_assoc, List.getElem?_append_left (by rw [List.length_take, List.length_map]; omega), List.getElem?_take, if_pos hj, List.getElem?_map] at he
    cases ep : ps[j]? with
    | none => rw [ep] at he; cases he
    | some q =>
      rw [ep] at he
      injection he with he
      rw [← he]
      exact low_isP (y.low q (List.mem_of_getElem? ep))
theorem tailA {f : Addr} {cdv : Value} {A : Around} {outer : List Env} {s : Shared} {H : Hp} {Q : VK} {E : XK} (T : TxtS mg) (hr : Room 7 (A.deeper (envOfC "law" (defScope sLaw) s.heap.objs.size f cdv))) (hgd : A.guards = some []) (cW : Cal P w K mg base "_law_word" fW fdW 7 ["way", "some"] (bx (spWord K))) (cN : Cal P w K mg base "_law_next" fNx fdNx 2 ["draw", "bound"] (bx spNext)) :
    ∃ u, PSs (cxOf (L2.CX P w) P w K mg base nL "law" (defScope sLaw) f cdv A outer s H E) (sTurn.drop 3) u ∧
      ∀ (D : Ends) (H1 : Hp) (p c l : Addr) (n : Nat) (ps : List NP) (a0 a2 a4 a5 a6 a7 a8 : Option V) (Dr : DrawAt H1 p c n) (hn : n < 2 ^ 27) (L : Lp K H1 l ps) (y : Hy ps)
        (fin : ∀ (b5 b6 b7 : Option V) (H' : Hp), DrawAt H' p c (n + 2) → D.nx [a0, some (.ref p), a2, some (.ref l), a4, b5, b6, b7, a8] H'), u D [a0, some (.ref p), a2, some (.ref l), a4, a5, a6, a7, a8] H1 := by
  obtain ⟨uB, hB, kB⟩ := tailB (outer := outer) (s := s) (H := H) (Q := Q) (E := E) T hr hgd cW cN
  have hr2 := hr.mono (show 2 ≤ 7 by decide)
  refine ⟨_, pss_cons (ps_set (i := 5) scLw.nd rfl (Or.inr rfl) (pe_ix ix_list (pe_lst (pa_cons pe_non (pa_cons pe_bl (pa_cons pe_int (pa_cons (pe_tup (pa_cons pe_int (pa_cons pe_int pa_nil))) (pa_cons (pe_tup (pa_cons (pe_un un_neg pe_int) (pa_cons pe_int pa_nil))) (pa_cons (pe_tup (pa_cons pe_int (pa_cons pe_int pa_nil))) (pa_cons (pe_tup (pa_cons pe_int pa_nil)) (pa_cons pe_str (pa_cons (pe_lst (pa_cons pe_int (pa_cons pe_int pa_nil))) (pa_cons (pe_tup (pa_cons pe_int (pa_cons pe_int pa_nil))) pa_nil))))))))))) (pe_cal cN hr2 hgd (pa_cons (pv 1) (pa_cons pe_int pa_nil))) (fun _ _ => rfl))) hB, ?_⟩
  intro D H1 p c l n ps a0 a2 a4 a5 a6 a7 a8 Dr hn L y fin
  refine ⟨by rw [sizeLine_eq]; show 2 ≤ 16777216; decide, fun t2 nn => ?_⟩
  generalize hG : upd H1 t2 _ = H2
  obtain ⟨s2, h2⟩ := same_of nn hG
  clear hG nn
  refine ⟨_, rfl, by rw [sizeLine_eq]; show 2 ≤ 16777216; decide, fun t3 nn => ?_⟩
  generalize hG : upd H2 t3 _ = H3
  obtain ⟨s3, h3⟩ := same_of nn hG
  clear hG nn
  refine ⟨by rw [sizeLine_eq]; show 2 ≤ 16777216; decide, fun t4 nn => ?_⟩
  generalize hG : upd H3 t4 _ = H4
  obtain ⟨s4, h4⟩ := same_of nn hG
  clear hG nn
  refine ⟨by rw [sizeLine_eq]; show 1 ≤ 16777216; decide, fun t5 nn => ?_⟩
  generalize hG : upd H4 t5 _ = H5
  obtain ⟨s5, h5⟩ := same_of nn hG
  clear hG nn
  refine ⟨by rw [sizeLine_eq]; show 2 ≤ 16777216; decide, fun t6 nn => ?_⟩
  generalize hG : upd H5 t6 _ = H6
  obtain ⟨s6, h6⟩ := same_of nn hG
  clear hG nn
  refine ⟨by rw [sizeLine_eq]; show 2 ≤ 16777216; decide, fun t7 nn => ?_⟩
  generalize hG : upd H6 t7 _ = H7
  obtain ⟨s7, h7⟩ := same_of nn hG
  clear hG nn
  have T7 : Same H7 H7 := same_rf _
  have T6 : Same H6 H7 := same_tr s7 T7
  have T5 : Same H5 H7 := same_tr s6 T6
  have T4 : Same H4 H7 := same_tr s5 T5
  have T3 : Same H3 H7 := same_tr s4 T4
  have T2 : Same H2 H7 := same_tr s3 T3
  have T1 : Same H1 H7 := same_tr s2 T2
  refine ⟨by rw [sizeLine_eq]; show 10 ≤ 16777216; decide, fun lL nn => ?_⟩
  generalize hG : upd H7 lL _ = HL
  obtain ⟨sL, hL⟩ := same_of nn hG
  clear hG nn
  have SL := same_tr T1 sL
  have DL := Dr.same SL
  refine ⟨_, rfl, next_ok DL (by omega) (by decide) (by decide) fun r HN r0 r1 DN KN => ?_⟩
  have hl : SqL K HN lL _ := .of (KN _ _ hL (DL.neL hL))
  have LN : Lp K HN l ps := by
    obtain ⟨xs, h, ha⟩ := L.same SL
    exact ⟨xs, KN _ _ h (DL.neL h), dpAll_map (dp_kp DL KN) ha⟩
  have go : ∀ (x : V) (d : PyData), Dp K HN x d → Odd d → _ := fun x d hx o => kB D HN p c l (n + 1) x d ps a0 a2 a4 a6 a7 a8 DN (by omega) hx o LN y fun b6 b7 H' D' => fin (some x) b6 b7 H' D'
  have mv : ∀ {d : PyData} {x : V}, Dp K H7 x d → Dp K HN x d := fun h => dp_kp DL KN (dp_same sL h)
  rcases (by omega : r = 0 ∨ r = 1 ∨ r = 2 ∨ r = 3 ∨ r = 4 ∨ r = 5 ∨ r = 6 ∨ r = 7 ∨ r = 8 ∨ r = 9) with z | z | z | z | z | z | z | z | z | z
  · subst z
    exact ⟨lL, _, 0, _, rfl, rfl, hl, rfl, go _ .none .non (odd_of (by decide +kernel) (by decide +kernel) (by decide +kernel) (by decide +kernel) (by decide +kernel) (by decide +kernel))⟩
  · subst z
    exact ⟨lL, _, 1, _, rfl, rfl, hl, rfl, go _ (.bool true) (.bl true) (odd_of (by decide +kernel) (by decide +kernel) (by decide +kernel) (by decide +kernel) (by decide +kernel) (by decide +kernel))⟩
  · subst z
    exact ⟨lL, _, 2, _, rfl, rfl, hl, rfl, go _ (.int 2) (.int 2) (odd_of (by decide +kernel) (by decide +kernel) (by decide +kernel) (by decide +kernel) (by decide +kernel) (by decide +kernel))⟩
  · subst z
    exact ⟨lL, _, 3, _, rfl, rfl, hl, rfl, go _ (.tuple [.int 0, .int 1]) (mv (dp_same T2 (.tup (.of h2) (.cons (.int 0) (.cons (.int 1) .nil))))) (odd_of (by decide +kernel) (by decide +kernel) (by decide +kernel) (by decide +kernel) (by decide +kernel) (by decide +kernel))⟩
  · subst z
    exact ⟨lL, _, 4, _, rfl, rfl, hl, rfl, go _ (.tuple [.int (-1), .int 2]) (mv (dp_same T3 (.tup (.of h3) (.cons (.int (-1)) (.cons (.int 2) .nil))))) (odd_of (by decide +kernel) (by decide +kernel) (by decide +kernel) (by decide +kernel) (by decide +kernel) (by decide +kernel))⟩
  · subst z
    exact ⟨lL, _, 5, _, rfl, rfl, hl, rfl, go _ (.tuple [.int 2, .int 4]) (mv (dp_same T4 (.tup (.of h4) (.cons (.int 2) (.cons (.int 4) .nil))))) (odd_of (by decide +kernel) (by decide +kernel) (by decide +kernel) (by decide +kernel) (by decide +kernel) (by decide +kernel))⟩
  · subst z
    exact ⟨lL, _, 6, _, rfl, rfl, hl, rfl, go _ (.tuple [.int 1]) (mv (dp_same T5 (.tup (.of h5) (.cons (.int 1) .nil)))) (odd_of (by decide +kernel) (by decide +kernel) (by decide +kernel) (by decide +kernel) (by decide +kernel) (by decide +kernel))⟩
  · subst z
    exact ⟨lL, _, 7, _, rfl, rfl, hl, rfl, go _ (.str (Str.ofString "1")) (.str _) (odd_of (by decide +kernel) (by decide +kernel) (by decide +kernel) (by decide +kernel) (by decide +kernel) (by decide +kernel))⟩
  · subst z
    exact ⟨lL, _, 8, _, rfl, rfl, hl, rfl, go _ (.list [.int 1, .int 1]) (mv (dp_same T6 (.lst (.of h6) (.cons (.int 1) (.cons (.int 1) .nil))))) (odd_of (by decide +kernel) (by decide +kernel) (by decide +kernel) (by decide +kernel) (by decide +kernel) (by decide +kernel))⟩
  · subst z
    exact ⟨lL, _, 9, _, rfl, rfl, hl, rfl, go _ (.tuple [.int 1, .int 0]) (mv (dp_same T7 (.tup (.of h7) (.cons (.int 1) (.cons (.int 0) .nil))))) (odd_of (by decide +kernel) (by decide +kernel) (by decide +kernel) (by decide +kernel) (by decide +kernel) (by decide +kernel))⟩
theorem cnt_nice : Nice (.list [.str (Str.ofString "count"), .int 0]) := ⟨by decide +kernel, by decide +kernel, by decide +kernel, by decide +kernel, by decide +kernel⟩
theorem ok_law {f : Addr} {fd : FuncData} (F : Fun K "law" "law" sLaw f fd) (T : TxtS mg) (cW : Cal P w K mg base "_law_word" fW fdW 7 ["way", "some"] (bx (spWord K))) (cN : Cal P w K mg base "_law_next" fNx fdNx 2 ["draw", "bound"] (bx spNext)) (cR : Cal P w K mg base "_law_right" fR fdR 7 ["some"] (bx (spRight K)))
    (cS : Cal P w K mg base "_law_some" fS fdS 5 ["draw"] (bx (spSome K))) (cB : Cal P w K mg base "_law_begin" fB fdB 1 ["script"] (bx (spBegin K))) : FnG P w K mg base 8 f fd ["script"] (spLaw K) := by
  refine okG F scLw (fun vs H Q E h => ?_) (fun cdv A outer s H vs Q E hr hgd h => ?_)
  · obtain ⟨a, ns, rfl, _⟩ := h
    rfl
  · obtain ⟨a, ns, rfl, hS, hl, fin⟩ := h
    obtain ⟨uA, hA, kA⟩ := tailA (outer := outer) (s := s) (H := H) (Q := Q) (E := E) T hr hgd cW cN
    have hr5 := hr.mono (show 5 ≤ 7 by decide)
    have hr1 := hr.mono (show 1 ≤ 7 by decide)
    refine ⟨_, pss_cons (ps_set (i := 1) scLw.nd rfl (Or.inl rfl) (pe_cal cB hr1 hgd (pa_cons (pv 0) pa_nil)))
      (pss_cons (ps_for PassesOwn.leaving rfl (pi_range1 rfl T.range (pa_cons (pe_callB (call_min2 rfl) (by rfl) T.min (by decide +kernel) (pa_cons pe_int (pa_cons (pe_op op_add pe_int (pe_callB call_len_seq (by rfl) T.len PySem.boot_len (pa_cons (pv 0) pa_nil))) pa_nil))) pa_nil)) (pg_name (i := 2) scLw.nd rfl (Or.inl rfl))
        (pss_cons (ps_set (i := 3) scLw.nd rfl (Or.inl rfl) (pe_cal cS hr5 hgd (pa_cons (pv 1) pa_nil)))
        (pss_cons (ps_set (i := 4) scLw.nd rfl (Or.inl rfl) (pe_callB (call_rep hr hgd) (by rfl) T.rep (by decide +kernel) (pa_cons (pv 3) pa_nil)))
        (pss_cons (ps_if (PW.pt (pw_or (pt_not (pt_val (pe_cal cR hr hgd (pa_cons (pv 3) pa_nil)))) (pw_or1 (pt_cmpR op_ne (pe_callB (call_rep hr hgd) (by rfl) T.rep (by decide +kernel) (pa_cons (pv 3) pa_nil)) (pv 4) (nomark _))))) (pss_one (ps_ret pe_bl)) pss_nil) hA))))
      (pss_one (ps_ret (pe_cmpR (op_eqD hr.units) (pe_lc (own := [("way", 8)]) (g := gName 8) (tt := tYes) rfl scLw.nd (pi_range1 rfl T.range (pa_cons pe_int pa_nil)) (blkOk_by (N := nL) (sc := defScope sLaw) (by decide +kernel)) (fun _ _ _ _ _ => pg_name (i := 8) scLw.nd rfl (Or.inl rfl)) (fun _ _ _ _ _ => pts_nil) (fun _ _ _ _ _ => pe_cal cW hr hgd (pa_cons (pv 8) (pa_cons (pe_lst pa_nil) pa_nil)))) (pe_op op_rep (pe_lst (pa_cons (pe_lst (pa_cons pe_str (pa_cons pe_int pa_nil))) pa_nil)) pe_int) (nomark _))))), ?_⟩
    refine ⟨_, rfl, begin_ok hS hl fun p c H1 D1 s1 => ?_⟩
    refine ⟨_, rfl, a, _, rfl, .inl (s1.seq hS), _, _, rfl, rfl, _, _, rfl, ?_⟩
    generalize hj : (if (6 + (((ns.map V.int).length : Nat) : Int)) < 24 then (6 + (((ns.map V.int).length : Nat) : Int)) else 24) = j
    have j0 : 0 ≤ j ∧ j ≤ 24 := by
      rw [← hj]
      split <;> omega
    refine ⟨j, rfl, by omega, by omega, for_range (lo := 0) (n := j.toNat) (fun i σ H' => ∃ k2 k3 k4 k5 k6 k7 k8 : Option V, σ = [some (.ref a), some (.ref p), k2, k3, k4, k5, k6, k7, k8] ∧ DrawAt H' p c (200 * i)) ⟨_, _, _, _, _, _, _, rfl, D1⟩ (fun i σ H' hi hP => ?_) (fun σ H' hP => ?_)⟩
    · obtain ⟨k2, k3, k4, k5, k6, k7, k8, rfl, D'⟩ := hP
      refine ⟨_, rfl, some_ok D' (by omega) fun l ps H2 y D2 L => ?_⟩
      obtain ⟨xs, hxl, hxa⟩ := id L
      have ft := nice_fit (nice_ps y.sm) (by rw [List.length_map]; have := y.len; omega)
      refine ⟨_, rfl, rep_ok (.lst (.of hxl) hxa) ft ?_⟩
      refine ⟨_, rfl, right_ok L y fun H3 s3 => ?_⟩
      refine ⟨_, rfl, iteF ?_⟩
      refine ⟨_, rfl, rep_ok (.lst (.of (s3 _ _ hxl)) (dpAll_map (dp_same s3) hxa)) ft ?_⟩
      refine ⟨_, rfl, rfl, _, rfl, iteNS rfl ?_⟩
      exact kA _ H3 p c l _ ps _ _ _ _ _ _ _ (D2.same s3) (by omega) (L.same s3) y fun b5 b6 b7 H4 D4 => ⟨_, _, _, _, _, _, _, rfl, D4.mono (by omega)⟩
    · obtain ⟨k2, k3, k4, k5, k6, k7, k8, rfl, _⟩ := hP
      refine ⟨2, rfl, by decide, by decide, fun D0 nD => words_ok (Str.ofString "count") (.int 0) nD (fun way H2 Q' g0 g1 s' k => ?_) (fun H2 r0 r1 S2 hD w0 w1 => ?_)⟩
      · refine ⟨_, rfl, by rw [sizeLine_eq]; show 0 ≤ 16777216; decide, fun l6 nn => ?_⟩
        generalize hG : upd H2 l6 _ = H3
        obtain ⟨s3, h3⟩ := same_of nn hG
        clear hG nn
        exact word_ok (xs := []) (ds := []) g0 g1 (.of h3) .nil (fun e he => by cases he) (by show 0 ≤ 4; decide) (.inl ⟨rfl, rfl, rfl, rfl⟩) fun r H4 s4 h4 => k r H4 (same_tr s3 s4) h4
      · refine ⟨by rw [sizeLine_eq]; show 2 ≤ 16777216; decide, fun l3 nn => ?_⟩
        generalize hG : upd H2 l3 _ = H3
        obtain ⟨s3, h3⟩ := same_of nn hG
        clear hG nn
        refine ⟨by rw [sizeLine_eq]; show 1 ≤ 16777216; decide, fun l4 nn => ?_⟩
        generalize hG : upd H3 l4 _ = H4
        obtain ⟨s4, h4⟩ := same_of nn hG
        clear hG nn
        refine ⟨l4, 2, _, rfl, rfl, h4, by decide, by decide, by rw [sizeLine_eq]; show 1 * 2 ≤ 16777216; decide, fun l5 nn => ?_⟩
        generalize hG : upd H4 l5 _ = H5
        obtain ⟨s5, h5⟩ := same_of nn hG
        clear hG nn
        have S5 := same_tr s3 (same_tr s4 s5)
        have w : Dp K H5 (.ref l3) (.list [.str (Str.ofString "count"), .int 0]) := .lst (.of (s5 _ _ (s4 _ _ h3))) (.cons (.str _) (.cons (.int 0) .nil))
        refine ⟨.list [.list [.str (Str.ofString "count"), .int 0], .list [.str (Str.ofString "count"), .int 0]], .list [.list [.str (Str.ofString "count"), .int 0], .list [.str (Str.ofString "count"), .int 0]],
          .lst (.of (S5 _ _ hD)) (.cons (.lst (.of (S5 _ _ w0)) (.cons (.str _) (.cons (.int 0) .nil))) (.cons (.lst (.of (S5 _ _ w1)) (.cons (.str _) (.cons (.int 0) .nil))) .nil)), .lst (.of h5) (.cons w (.cons w .nil)), by decide +kernel, by decide +kernel, ?_⟩
        rw [SeqAt.eqv_refl _ (by decide +kernel)]
        exact fin _
end
end K4
set_option Elab.async false
set_option linter.all false
set_option maxRecDepth 100000
set_option maxHeartbeats 4000000
set_option exponentiation.threshold 100000
namespace K4
open PySem PySem.Spec PyProof.Rows L2 RmX Rm Mth
theorem exm_of {K : PySem.W.Frag} {cls S : Addr} {b : Bool} (h1 : PySem.W.subIn K (.ref S) (.type "BaseException") = some true) (h2 : PySem.W.isClsIn K S = true) (h3 : PySem.W.typeIn K (.ref S) = some (.type "type")) (h4 : PySem.W.subIn K (.ref cls) (.ref S) = some b) :
    PySem.W.exmOne K (.ref cls) (.ref S) = some b := by
  have h2' : (PySem.W.clsIn K S).isSome = true := h2
  unfold PySem.W.exmOne
  rw [h1]
  show PySem.W.kitCls K (.ref cls) (.ref S) = some b
  have e : ((PySem.W.clsIn K S).isSome && PySem.W.typeIn K (.ref S) == some (.type "type")) = true := by
    rw [h2', h3]
    rfl
  exact (if_pos e).trans h4
theorem exm_three {K : PySem.W.Frag} {cls a b c : Value} {x y z : Bool} (h1 : PySem.W.exmOne K cls a = some x) (h2 : PySem.W.exmOne K cls b = some y) (h3 : PySem.W.exmOne K cls c = some z) : PySem.W.exmAny K cls [a, b, c] = some (x || (y || (z || false))) := by
  simp only [PySem.W.exmAny, h1, h2, h3]
theorem kit_same {K : PySem.W.Frag} {C : Addr} : PySem.W.kitOne K (.ref C) (.ref C) = some true := by
  unfold PySem.W.kitOne
  rw [if_pos (by simp)]
theorem kit_ne {K : PySem.W.Frag} {C C2 : Addr} (ne : C ≠ C2) (h2 : PySem.W.isClsIn K C2 = true) (h3 : PySem.W.typeIn K (.ref C2) = some (.type "type")) (h4 : PySem.W.subIn K (.ref C) (.ref C2) = some false) : PySem.W.kitOne K (.ref C) (.ref C2) = some false := by
  have h2' : (PySem.W.clsIn K C2).isSome = true := h2
  unfold PySem.W.kitOne
  rw [if_neg (by simp [ne])]
  have e : ((PySem.W.clsIn K C2).isSome && PySem.W.typeIn K (.ref C2) == some (.type "type")) = true := by
    rw [h2', h3]
    rfl
  exact (if_pos e).trans h4
theorem bind_gre (kV doc pm cdv ct : Value) (an : Option Addr) (rest : List Value) : bindArgs (PySem.W.fnOf "greatest_measure" "greatest_measure" (defArgs sGre) (defBody sGre) (defScope sGre) .none kV doc pm an cdv ct) ⟨rest, []⟩ = (newTuple rest >>= fun t => pure [((Str.ofString "numbers" : Str), t)]) := by
  cases rest with
  | nil => rfl
  | cons a r => rfl
theorem bind_lea (kV doc pm cdv ct : Value) (an : Option Addr) (rest : List Value) : bindArgs (PySem.W.fnOf "least_multiple" "least_multiple" (defArgs sLea) (defBody sLea) (defScope sLea) .none kV doc pm an cdv ct) ⟨rest, []⟩ = (newTuple rest >>= fun t => pure [((Str.ofString "numbers" : Str), t)]) := by
  cases rest with
  | nil => rfl
  | cons a r => rfl
set_option maxHeartbeats 40000000 in
theorem all_mk {P : Program} {w : World} {K : PySem.W.Frag} {h : Heap} {mg : Str → Option Value} {fa C C2 cP cS cM fI f2 fNum tN cc cda cc2 cda2 : Addr} (X : K.In h) (G : h.Ns mainGlobals mg) (hfa : mg "law" = some (.ref fa))
    {nm q : Str} {N : Addr} {bs : List Value} {sn : List Str} {sub : List Value} {ab : Bool} {col : Option Bool} {dd : Option Addr} {m0 m1 m2 m3 m5 : Option Value}
    {oci dci pmi cti xl0 xd0 : Value} {odi ani xl1 xd1 : Option Addr} {sli xl2 xd2 : Array (Option Value)} {cdf : Array Value} {file : Str} {tf : Nat}
    {nm2 q2 : Str} {N2 : Addr} {bs2 : List Value} {sn2 : List Str} {sub2 : List Value} {ab2 : Bool} {col2 : Option Bool} {dd2 : Option Addr} {m02 m12 m22 m32 m52 : Option Value}
    {oci2 dci2 pmi2 cti2 xl02 xd02 : Value} {odi2 ani2 xl12 xd12 : Option Addr} {sli2 xl22 xd22 : Array (Option Value)} {cdf2 : Array Value} {file2 : Str} {tf2 : Nat}
    {tk1 : Nat} {on kVn dcn pmn cdn ctn ot : Value} {on1 ann ot1 : Option Addr} {sln slt : Array (Option Value)} {tm : Nat}
    {g0 : Addr} {od0 an0 : Option Addr} {sl0 : Array (Option Value)} {oc0 kV0 dc0 pm0 cd0 ct0 : Value}
    {g1 : Addr} {od1 an1 : Option Addr} {sl1 : Array (Option Value)} {oc1 kV1 dc1 pm1 cd1 ct1 : Value}
    {g2 : Addr} {od2 an2 : Option Addr} {sl2 : Array (Option Value)} {oc2 kV2 dc2 pm2 cd2 ct2 : Value}
    {g3 : Addr} {od3 an3 : Option Addr} {sl3 : Array (Option Value)} {oc3 kV3 dc3 pm3 cd3 ct3 : Value}
    {g4 : Addr} {od4 an4 : Option Addr} {sl4 : Array (Option Value)} {oc4 kV4 dc4 pm4 cd4 ct4 : Value}
    {g5 : Addr} {od5 an5 : Option Addr} {sl5 : Array (Option Value)} {oc5 kV5 dc5 pm5 cd5 ct5 : Value}
    {g6 : Addr} {od6 an6 : Option Addr} {sl6 : Array (Option Value)} {oc6 kV6 dc6 pm6 cd6 ct6 : Value}
    {g7 : Addr} {od7 an7 : Option Addr} {sl7 : Array (Option Value)} {oc7 kV7 dc7 pm7 cd7 ct7 : Value}
    {g8 : Addr} {od8 an8 : Option Addr} {sl8 : Array (Option Value)} {oc8 kV8 dc8 pm8 cd8 ct8 : Value}
    {g9 : Addr} {od9 an9 : Option Addr} {sl9 : Array (Option Value)} {oc9 kV9 dc9 pm9 cd9 ct9 : Value}
    {g10 : Addr} {od10 an10 : Option Addr} {sl10 : Array (Option Value)} {oc10 kV10 dc10 pm10 cd10 ct10 : Value}
    {g11 : Addr} {od11 an11 : Option Addr} {sl11 : Array (Option Value)} {oc11 kV11 dc11 pm11 cd11 ct11 : Value}
    {g12 : Addr} {od12 an12 : Option Addr} {sl12 : Array (Option Value)} {oc12 kV12 dc12 pm12 cd12 ct12 : Value}
    {g13 : Addr} {od13 an13 : Option Addr} {sl13 : Array (Option Value)} {oc13 kV13 dc13 pm13 cd13 ct13 : Value}
    {g14 : Addr} {od14 an14 : Option Addr} {sl14 : Array (Option Value)} {oc14 kV14 dc14 pm14 cd14 ct14 : Value}
    {g15 : Addr} {od15 an15 : Option Addr} {sl15 : Array (Option Value)} {oc15 kV15 dc15 pm15 cd15 ct15 : Value}
    {g16 : Addr} {od16 an16 : Option Addr} {sl16 : Array (Option Value)} {oc16 kV16 dc16 pm16 cd16 ct16 : Value}
    {g17 : Addr} {od17 an17 : Option Addr} {sl17 : Array (Option Value)} {oc17 kV17 dc17 pm17 cd17 ct17 : Value}
    {g18 : Addr} {od18 an18 : Option Addr} {sl18 : Array (Option Value)} {oc18 kV18 dc18 pm18 cd18 ct18 : Value}
    {g19 : Addr} {od19 an19 : Option Addr} {sl19 : Array (Option Value)} {oc19 kV19 dc19 pm19 cd19 ct19 : Value}
    {g20 : Addr} {od20 an20 : Option Addr} {sl20 : Array (Option Value)} {oc20 kV20 dc20 pm20 cd20 ct20 : Value}
    (aC : PySem.W.nsIn K mainGlobals "InvalidNumber" = some (some (.ref C)))
    (bC : PySem.W.nsIn K mainGlobals "InvalidCount" = some (some (.ref C2)))
    (aP : PySem.W.nsIn K mainGlobals "PaceError" = some (some (.ref cP)))
    (aS : PySem.W.nsIn K mainGlobals "StateError" = some (some (.ref cS)))
    (aM : PySem.W.nsIn K mainGlobals "MissingError" = some (some (.ref cM)))
    (aG : PySem.W.nsIn K mainGlobals "gcd" = some (some (.builtin "math.gcd")))
    (aL : PySem.W.nsIn K mainGlobals "lcm" = some (some (.builtin "math.lcm")))
    (z_len : PySem.W.nsIn K mainGlobals "len" = some none)
    (z_isinstance : PySem.W.nsIn K mainGlobals "isinstance" = some none)
    (z_int : PySem.W.nsIn K mainGlobals "int" = some none)
    (z_bool : PySem.W.nsIn K mainGlobals "bool" = some none)
    (z_tuple : PySem.W.nsIn K mainGlobals "tuple" = some none)
    (z_super : PySem.W.nsIn K mainGlobals "super" = some none)
    (z_range : PySem.W.nsIn K mainGlobals "range" = some none)
    (z_min : PySem.W.nsIn K mainGlobals "min" = some none)
    (z_repr : PySem.W.nsIn K mainGlobals "repr" = some none)
    (e_op : PySem.W.nsIn K cStatics "thirdparty.any" = some none)
    (e_cn : PySem.W.specialIn K (.builtin "object.__class__") "__get__" = some (some (.builtin "getset_descriptor.__get__")))
    (e_ct : PySem.W.takesIn K (.builtin "object.__class__") = some true)
    (i_top : (P.main.scope.names.lookup ("super" : Str)).isSome = false)
    (xL : K.lookup C = some (excClassObj nm q C N bs [.ref cP, .type "ValueError", .type "Exception", .type "BaseException", .type "object"] true sn sub ab col dd m0 m1 m2 m3 m5 "ValueError.__new__"))
    (e_sa : PySem.W.findIn K (.ref C) "__setattr__" = some (some (.builtin "object.__setattr__")))
    (e_ga : PySem.W.findIn K (.ref C) "__getattribute__" = some (some (.builtin "BaseException.__getattribute__")))
    (e_gg : PySem.W.findIn K (.ref C) "__getattr__" = some none)
    (e_nF : PySem.W.findIn K (.ref C) "thing" = some none)
    (e_iC : PySem.W.findIn K (.ref C) "__init__" = some (some (.ref fI)))
    (e_tI : PySem.W.typeIn K (.ref fI) = some (.type "function"))
    (e_kC : PySem.W.keepIn K (.ref C) = true)
    (e_ex : PySem.W.subIn K (.ref C) (.type "BaseException") = some true)
    (e_ty : PySem.W.typeIn K (.ref C) = some (.type "type"))
    (e_hd : PySem.W.hasDictIn K C = true)
    (e_su : PySem.W.ks_superIn K C C "__init__" = some (some (.builtin "ValueError.__init__")))
    (e_hB : PySem.W.subIn K (.ref C) (.type "ValueError") = some true)
    (e_me : PySem.W.mroIn K C (.ref C) = some true)
    (e_ca : PySem.W.findIn K (.ref C) "__class__" = some (some (.builtin "object.__class__")))
    (e_cm : PySem.W.mroIn K C (.type "object") = some true)
    (i_l : K.lookup fI = some ⟨oci, odi, .func (PySem.W.fnX "__init__" "InvalidNumber.__init__" (iA "thing" ⟨11, 17, 11, 21⟩ ⟨11, 23, 11, 28⟩) (iB "thing" "not a number that fits here: " ⟨12, 8, 12, 13⟩ ⟨12, 8, 12, 15⟩ ⟨12, 8, 12, 24⟩ ⟨12, 27, 12, 56⟩ ⟨12, 57, 12, 62⟩ ⟨12, 56, 12, 65⟩ ⟨12, 25, 12, 66⟩ ⟨12, 8, 12, 67⟩ ⟨12, 8, 12, 67⟩ ⟨13, 8, 13, 12⟩ ⟨13, 8, 13, 18⟩ ⟨13, 21, 13, 26⟩ ⟨13, 8, 13, 26⟩) (iS "thing") [("__class__", cc)] .none .none dci pmi ani (.ref cda) cti), sli⟩)
    (i_c : PySem.W.codeIn K (.ref cda) "InvalidNumber.__init__" = true)
    (i_cc : K.lookup cc = some ⟨xl0, xl1, .cell (some (.ref C)), xl2⟩)
    (i_cd : K.lookup cda = some ⟨xd0, xd1, .fields cdf, xd2⟩)
    (i_f2 : cdf[2]? = some (.str file tf))
    (i_fe : ((P.main.file : Str) == file) = true)
    (s_sP : PySem.W.subIn K (.ref C) (.ref cP) = some true)
    (s_sS : PySem.W.subIn K (.ref C) (.ref cS) = some false)
    (s_sM : PySem.W.subIn K (.ref C) (.ref cM) = some false)
    (xL2 : K.lookup C2 = some (excClassObj nm2 q2 C2 N2 bs2 [.ref cP, .type "ValueError", .type "Exception", .type "BaseException", .type "object"] true sn2 sub2 ab2 col2 dd2 m02 m12 m22 m32 m52 "ValueError.__new__"))
    (e_sa2 : PySem.W.findIn K (.ref C2) "__setattr__" = some (some (.builtin "object.__setattr__")))
    (e_ga2 : PySem.W.findIn K (.ref C2) "__getattribute__" = some (some (.builtin "BaseException.__getattribute__")))
    (e_gg2 : PySem.W.findIn K (.ref C2) "__getattr__" = some none)
    (e_nF2 : PySem.W.findIn K (.ref C2) "count" = some none)
    (e_iC2 : PySem.W.findIn K (.ref C2) "__init__" = some (some (.ref f2)))
    (e_tI2 : PySem.W.typeIn K (.ref f2) = some (.type "function"))
    (e_kC2 : PySem.W.keepIn K (.ref C2) = true)
    (e_ex2 : PySem.W.subIn K (.ref C2) (.type "BaseException") = some true)
    (e_ty2 : PySem.W.typeIn K (.ref C2) = some (.type "type"))
    (e_hd2 : PySem.W.hasDictIn K C2 = true)
    (e_su2 : PySem.W.ks_superIn K C2 C2 "__init__" = some (some (.builtin "ValueError.__init__")))
    (e_hB2 : PySem.W.subIn K (.ref C2) (.type "ValueError") = some true)
    (e_me2 : PySem.W.mroIn K C2 (.ref C2) = some true)
    (e_ca2 : PySem.W.findIn K (.ref C2) "__class__" = some (some (.builtin "object.__class__")))
    (e_cm2 : PySem.W.mroIn K C2 (.type "object") = some true)
    (i_l2 : K.lookup f2 = some ⟨oci2, odi2, .func (PySem.W.fnX "__init__" "InvalidCount.__init__" (iA "count" ⟨16, 17, 16, 21⟩ ⟨16, 23, 16, 28⟩) (iB "count" "not a count that fits here: " ⟨17, 8, 17, 13⟩ ⟨17, 8, 17, 15⟩ ⟨17, 8, 17, 24⟩ ⟨17, 27, 17, 55⟩ ⟨17, 56, 17, 61⟩ ⟨17, 55, 17, 64⟩ ⟨17, 25, 17, 65⟩ ⟨17, 8, 17, 66⟩ ⟨17, 8, 17, 66⟩ ⟨18, 8, 18, 12⟩ ⟨18, 8, 18, 18⟩ ⟨18, 21, 18, 26⟩ ⟨18, 8, 18, 26⟩) (iS "count") [("__class__", cc2)] .none .none dci2 pmi2 ani2 (.ref cda2) cti2), sli2⟩)
    (i_c2 : PySem.W.codeIn K (.ref cda2) "InvalidCount.__init__" = true)
    (i_cc2 : K.lookup cc2 = some ⟨xl02, xl12, .cell (some (.ref C2)), xl22⟩)
    (i_cd2 : K.lookup cda2 = some ⟨xd02, xd12, .fields cdf2, xd22⟩)
    (i_f22 : cdf2[2]? = some (.str file2 tf2))
    (i_fe2 : ((P.main.file : Str) == file2) = true)
    (s_sP2 : PySem.W.subIn K (.ref C2) (.ref cP) = some true)
    (s_sS2 : PySem.W.subIn K (.ref C2) (.ref cS) = some false)
    (s_sM2 : PySem.W.subIn K (.ref C2) (.ref cM) = some false)
    (neC : C ≠ C2)
    (cl2 : PySem.W.isClsIn K C2 = true)
    (sbN : PySem.W.subIn K (.ref C) (.ref C2) = some false)
    (s_bP : PySem.W.subIn K (.ref cP) (.type "BaseException") = some true)
    (s_iP : PySem.W.isClsIn K cP = true)
    (s_tP : PySem.W.typeIn K (.ref cP) = some (.type "type"))
    (s_bS : PySem.W.subIn K (.ref cS) (.type "BaseException") = some true)
    (s_iS : PySem.W.isClsIn K cS = true)
    (s_tS : PySem.W.typeIn K (.ref cS) = some (.type "type"))
    (s_bM : PySem.W.subIn K (.ref cM) (.type "BaseException") = some true)
    (s_iM : PySem.W.isClsIn K cM = true)
    (s_tM : PySem.W.typeIn K (.ref cM) = some (.type "type"))
    (n_a : PySem.W.nsIn K mainGlobals "number" = some (some (.ref fNum)))
    (n_l : K.lookup fNum = some ⟨on, on1, .func (PySem.W.fnOf "number" "number" (defArgs sNum) (defBody sNum) (defScope sNum) (.ref tN) kVn dcn pmn ann cdn ctn), sln⟩)
    (n_t : K.lookup tN = some ⟨ot, ot1, .seq #[.int 1 tk1] tm, slt⟩)
    (n_c : PySem.W.codeIn K cdn "number" = true)
    (n_k : PySem.W.keepIn K (.ref fNum) = true)
    (a0 : PySem.W.nsIn K mainGlobals "is_integer" = some (some (.ref g0)))
    (l0 : K.lookup g0 = some ⟨oc0, od0, .func (PySem.W.fnOf "is_integer" "is_integer" (defArgs sIsI) (defBody sIsI) (defScope sIsI) .none kV0 dc0 pm0 an0 cd0 ct0), sl0⟩)
    (c0 : PySem.W.codeIn K cd0 "is_integer" = true)
    (k0 : PySem.W.keepIn K (.ref g0) = true)
    (a1 : PySem.W.nsIn K mainGlobals "is_number" = some (some (.ref g1)))
    (l1 : K.lookup g1 = some ⟨oc1, od1, .func (PySem.W.fnOf "is_number" "is_number" (defArgs sIsN) (defBody sIsN) (defScope sIsN) .none kV1 dc1 pm1 an1 cd1 ct1), sl1⟩)
    (c1 : PySem.W.codeIn K cd1 "is_number" = true)
    (k1 : PySem.W.keepIn K (.ref g1) = true)
    (a2 : PySem.W.nsIn K mainGlobals "is_positive" = some (some (.ref g2)))
    (l2 : K.lookup g2 = some ⟨oc2, od2, .func (PySem.W.fnOf "is_positive" "is_positive" (defArgs sPos) (defBody sPos) (defScope sPos) .none kV2 dc2 pm2 an2 cd2 ct2), sl2⟩)
    (c2 : PySem.W.codeIn K cd2 "is_positive" = true)
    (k2 : PySem.W.keepIn K (.ref g2) = true)
    (a3 : PySem.W.nsIn K mainGlobals "check_number" = some (some (.ref g3)))
    (l3 : K.lookup g3 = some ⟨oc3, od3, .func (PySem.W.fnOf "check_number" "check_number" (defArgs sChk) (defBody sChk) (defScope sChk) .none kV3 dc3 pm3 an3 cd3 ct3), sl3⟩)
    (c3 : PySem.W.codeIn K cd3 "check_number" = true)
    (k3 : PySem.W.keepIn K (.ref g3) = true)
    (a4 : PySem.W.nsIn K mainGlobals "multiply" = some (some (.ref g4)))
    (l4 : K.lookup g4 = some ⟨oc4, od4, .func (PySem.W.fnOf "multiply" "multiply" (defArgs sMul) (defBody sMul) (defScope sMul) .none kV4 dc4 pm4 an4 cd4 ct4), sl4⟩)
    (c4 : PySem.W.codeIn K cd4 "multiply" = true)
    (k4 : PySem.W.keepIn K (.ref g4) = true)
    (a5 : PySem.W.nsIn K mainGlobals "divide" = some (some (.ref g5)))
    (l5 : K.lookup g5 = some ⟨oc5, od5, .func (PySem.W.fnOf "divide" "divide" (defArgs sDiv) (defBody sDiv) (defScope sDiv) .none kV5 dc5 pm5 an5 cd5 ct5), sl5⟩)
    (c5 : PySem.W.codeIn K cd5 "divide" = true)
    (k5 : PySem.W.keepIn K (.ref g5) = true)
    (a6 : PySem.W.nsIn K mainGlobals "check_positive_numbers" = some (some (.ref g6)))
    (l6 : K.lookup g6 = some ⟨oc6, od6, .func (PySem.W.fnOf "check_positive_numbers" "check_positive_numbers" (defArgs sCPN) (defBody sCPN) (defScope sCPN) .none kV6 dc6 pm6 an6 cd6 ct6), sl6⟩)
    (c6 : PySem.W.codeIn K cd6 "check_positive_numbers" = true)
    (k6 : PySem.W.keepIn K (.ref g6) = true)
    (a7 : PySem.W.nsIn K mainGlobals "_law_begin" = some (some (.ref g7)))
    (l7 : K.lookup g7 = some ⟨oc7, od7, .func (PySem.W.fnOf "_law_begin" "_law_begin" (defArgs sBegin) (defBody sBegin) (defScope sBegin) .none kV7 dc7 pm7 an7 cd7 ct7), sl7⟩)
    (c7 : PySem.W.codeIn K cd7 "_law_begin" = true)
    (k7 : PySem.W.keepIn K (.ref g7) = true)
    (a8 : PySem.W.nsIn K mainGlobals "_law_mixed" = some (some (.ref g8)))
    (l8 : K.lookup g8 = some ⟨oc8, od8, .func (PySem.W.fnOf "_law_mixed" "_law_mixed" (defArgs sMixed) (defBody sMixed) (defScope sMixed) .none kV8 dc8 pm8 an8 cd8 ct8), sl8⟩)
    (c8 : PySem.W.codeIn K cd8 "_law_mixed" = true)
    (k8 : PySem.W.keepIn K (.ref g8) = true)
    (a9 : PySem.W.nsIn K mainGlobals "_law_next" = some (some (.ref g9)))
    (l9 : K.lookup g9 = some ⟨oc9, od9, .func (PySem.W.fnOf "_law_next" "_law_next" (defArgs sNext) (defBody sNext) (defScope sNext) .none kV9 dc9 pm9 an9 cd9 ct9), sl9⟩)
    (c9 : PySem.W.codeIn K cd9 "_law_next" = true)
    (k9 : PySem.W.keepIn K (.ref g9) = true)
    (a10 : PySem.W.nsIn K mainGlobals "_law_divisor" = some (some (.ref g10)))
    (l10 : K.lookup g10 = some ⟨oc10, od10, .func (PySem.W.fnOf "_law_divisor" "_law_divisor" (defArgs sDvs) (defBody sDvs) (defScope sDvs) .none kV10 dc10 pm10 an10 cd10 ct10), sl10⟩)
    (c10 : PySem.W.codeIn K cd10 "_law_divisor" = true)
    (k10 : PySem.W.keepIn K (.ref g10) = true)
    (a11 : PySem.W.nsIn K mainGlobals "_law_positive" = some (some (.ref g11)))
    (l11 : K.lookup g11 = some ⟨oc11, od11, .func (PySem.W.fnOf "_law_positive" "_law_positive" (defArgs sPst) (defBody sPst) (defScope sPst) .none kV11 dc11 pm11 an11 cd11 ct11), sl11⟩)
    (c11 : PySem.W.codeIn K cd11 "_law_positive" = true)
    (k11 : PySem.W.keepIn K (.ref g11) = true)
    (a12 : PySem.W.nsIn K mainGlobals "_law_some" = some (some (.ref g12)))
    (l12 : K.lookup g12 = some ⟨oc12, od12, .func (PySem.W.fnOf "_law_some" "_law_some" (defArgs sSome) (defBody sSome) (defScope sSome) .none kV12 dc12 pm12 an12 cd12 ct12), sl12⟩)
    (c12 : PySem.W.codeIn K cd12 "_law_some" = true)
    (k12 : PySem.W.keepIn K (.ref g12) = true)
    (a13 : PySem.W.nsIn K mainGlobals "_law_measure" = some (some (.ref g13)))
    (l13 : K.lookup g13 = some ⟨oc13, od13, .func (PySem.W.fnOf "_law_measure" "_law_measure" (defArgs sMea) (defBody sMea) (defScope sMea) .none kV13 dc13 pm13 an13 cd13 ct13), sl13⟩)
    (c13 : PySem.W.codeIn K cd13 "_law_measure" = true)
    (k13 : PySem.W.keepIn K (.ref g13) = true)
    (a14 : PySem.W.nsIn K mainGlobals "_law_multiple" = some (some (.ref g14)))
    (l14 : K.lookup g14 = some ⟨oc14, od14, .func (PySem.W.fnOf "_law_multiple" "_law_multiple" (defArgs sMlt) (defBody sMlt) (defScope sMlt) .none kV14 dc14 pm14 an14 cd14 ct14), sl14⟩)
    (c14 : PySem.W.codeIn K cd14 "_law_multiple" = true)
    (k14 : PySem.W.keepIn K (.ref g14) = true)
    (a15 : PySem.W.nsIn K mainGlobals "_law_are_coprime" = some (some (.ref g15)))
    (l15 : K.lookup g15 = some ⟨oc15, od15, .func (PySem.W.fnOf "_law_are_coprime" "_law_are_coprime" (defArgs sCop) (defBody sCop) (defScope sCop) .none kV15 dc15 pm15 an15 cd15 ct15), sl15⟩)
    (c15 : PySem.W.codeIn K cd15 "_law_are_coprime" = true)
    (k15 : PySem.W.keepIn K (.ref g15) = true)
    (a16 : PySem.W.nsIn K mainGlobals "_law_right" = some (some (.ref g16)))
    (l16 : K.lookup g16 = some ⟨oc16, od16, .func (PySem.W.fnOf "_law_right" "_law_right" (defArgs sRight) (defBody sRight) (defScope sRight) .none kV16 dc16 pm16 an16 cd16 ct16), sl16⟩)
    (c16 : PySem.W.codeIn K cd16 "_law_right" = true)
    (k16 : PySem.W.keepIn K (.ref g16) = true)
    (a17 : PySem.W.nsIn K mainGlobals "_law_word" = some (some (.ref g17)))
    (l17 : K.lookup g17 = some ⟨oc17, od17, .func (PySem.W.fnOf "_law_word" "_law_word" (defArgs sWord) (defBody sWord) (defScope sWord) .none kV17 dc17 pm17 an17 cd17 ct17), sl17⟩)
    (c17 : PySem.W.codeIn K cd17 "_law_word" = true)
    (k17 : PySem.W.keepIn K (.ref g17) = true)
    (a18 : PySem.W.nsIn K mainGlobals "law" = some (some (.ref g18)))
    (l18 : K.lookup g18 = some ⟨oc18, od18, .func (PySem.W.fnOf "law" "law" (defArgs sLaw) (defBody sLaw) (defScope sLaw) .none kV18 dc18 pm18 an18 cd18 ct18), sl18⟩)
    (c18 : PySem.W.codeIn K cd18 "law" = true)
    (k18 : PySem.W.keepIn K (.ref g18) = true)
    (a19 : PySem.W.nsIn K mainGlobals "greatest_measure" = some (some (.ref g19)))
    (l19 : K.lookup g19 = some ⟨oc19, od19, .func (PySem.W.fnOf "greatest_measure" "greatest_measure" (defArgs sGre) (defBody sGre) (defScope sGre) .none kV19 dc19 pm19 an19 cd19 ct19), sl19⟩)
    (c19 : PySem.W.codeIn K cd19 "greatest_measure" = true)
    (k19 : PySem.W.keepIn K (.ref g19) = true)
    (a20 : PySem.W.nsIn K mainGlobals "least_multiple" = some (some (.ref g20)))
    (l20 : K.lookup g20 = some ⟨oc20, od20, .func (PySem.W.fnOf "least_multiple" "least_multiple" (defArgs sLea) (defBody sLea) (defScope sLea) .none kV20 dc20 pm20 an20 cd20 ct20), sl20⟩)
    (c20 : PySem.W.codeIn K cd20 "least_multiple" = true)
    (k20 : PySem.W.keepIn K (.ref g20) = true) :
    ∃ fd : FuncData, (∀ (s : Shared) (u : Value), BindsTo s fd ⟨[u], []⟩ [("script", u)]) ∧ ∀ base : Heap, K.In base → base.Ns mainGlobals mg → FnG P w K mg base 8 fa fd ["script"] (spLaw K) := by
  have e := hfa.symm.trans (PySem.W.mg_of X G a18)
  cases e
  have ex : ExT P K mg C fI "thing" "ValueError" "ValueError.__new__" "ValueError.__init__" [.type "ValueError", .type "Exception", .type "BaseException", .type "object"] :=
    { cls := ⟨nm, q, N, bs, _, sn, sub, ab, col, dd, m0, m1, m2, m3, m5, xL, by with_unfolding_all rfl⟩, sa := e_sa, ga := e_ga, gg := e_gg, noF := e_nF, iC := e_iC, tI := e_tI, kC := e_kC, exC := e_ex, tyC := e_ty, hdC := e_hd, sup := e_su, hB := e_hB, self := e_me, opq := e_op, nsup := z_super, ca := e_ca, cn := e_cn, ct := e_ct, cm := e_cm,
      fn := ⟨_, _, _, _, _, _, _, _, _, _, _, _, _, _, _, _, _, _, _, _, _, _, _, _, _, _, rfl, i_l, i_c, by decide +kernel, ⟨_, _, _, i_cc⟩, ⟨_, _, _, _, _, _, i_cd, i_f2, i_fe⟩⟩, top := i_top }
  have ex2 : ExT P K mg C2 f2 "count" "ValueError" "ValueError.__new__" "ValueError.__init__" [.type "ValueError", .type "Exception", .type "BaseException", .type "object"] :=
    { cls := ⟨nm2, q2, N2, bs2, _, sn2, sub2, ab2, col2, dd2, m02, m12, m22, m32, m52, xL2, by with_unfolding_all rfl⟩, sa := e_sa2, ga := e_ga2, gg := e_gg2, noF := e_nF2, iC := e_iC2, tI := e_tI2, kC := e_kC2, exC := e_ex2, tyC := e_ty2, hdC := e_hd2, sup := e_su2, hB := e_hB2, self := e_me2, opq := e_op, nsup := z_super, ca := e_ca2, cn := e_cn, ct := e_ct, cm := e_cm2,
      fn := ⟨_, _, _, _, _, _, _, _, _, _, _, _, _, _, _, _, _, _, _, _, _, _, _, _, _, _, rfl, i_l2, i_c2, by decide +kernel, ⟨_, _, _, i_cc2⟩, ⟨_, _, _, _, _, _, i_cd2, i_f22, i_fe2⟩⟩, top := i_top }
  have F0 := fun_mk (st := sIsI) l0 c0 k0
  have b0 := F0.binds (ps := ["thing"]) fun _ _ _ _ _ _ us hl => match us, hl with | [_], _ => rfl
  have F1 := fun_mk (st := sIsN) l1 c1 k1
  have b1 := F1.binds (ps := ["thing"]) fun _ _ _ _ _ _ us hl => match us, hl with | [_], _ => rfl
  have F2 := fun_mk (st := sPos) l2 c2 k2
  have b2 := F2.binds (ps := ["thing"]) fun _ _ _ _ _ _ us hl => match us, hl with | [_], _ => rfl
  have F3 := fun_mk (st := sChk) l3 c3 k3
  have b3 := F3.binds (ps := ["thing"]) fun _ _ _ _ _ _ us hl => match us, hl with | [_], _ => rfl
  have F4 := fun_mk (st := sMul) l4 c4 k4
  have b4 := F4.binds (ps := ["first", "second"]) fun _ _ _ _ _ _ us hl => match us, hl with | [_, _], _ => rfl
  have F5 := fun_mk (st := sDiv) l5 c5 k5
  have b5 := F5.binds (ps := ["first", "second"]) fun _ _ _ _ _ _ us hl => match us, hl with | [_, _], _ => rfl
  have F6 := fun_mk (st := sCPN) l6 c6 k6
  have b6 := F6.binds (ps := ["numbers"]) fun _ _ _ _ _ _ us hl => match us, hl with | [_], _ => rfl
  have F7 := fun_mk (st := sBegin) l7 c7 k7
  have b7 := F7.binds (ps := ["script"]) fun _ _ _ _ _ _ us hl => match us, hl with | [_], _ => rfl
  have F8 := fun_mk (st := sMixed) l8 c8 k8
  have b8 := F8.binds (ps := ["cell", "k"]) fun _ _ _ _ _ _ us hl => match us, hl with | [_, _], _ => rfl
  have F9 := fun_mk (st := sNext) l9 c9 k9
  have b9 := F9.binds (ps := ["draw", "bound"]) fun _ _ _ _ _ _ us hl => match us, hl with | [_, _], _ => rfl
  have F10 := fun_mk (st := sDvs) l10 c10 k10
  have b10 := F10.binds (ps := ["one", "other"]) fun _ _ _ _ _ _ us hl => match us, hl with | [_, _], _ => rfl
  have F11 := fun_mk (st := sPst) l11 c11 k11
  have b11 := F11.binds (ps := ["draw"]) fun _ _ _ _ _ _ us hl => match us, hl with | [_], _ => rfl
  have F12 := fun_mk (st := sSome) l12 c12 k12
  have b12 := F12.binds (ps := ["draw"]) fun _ _ _ _ _ _ us hl => match us, hl with | [_], _ => rfl
  have F13 := fun_mk (st := sMea) l13 c13 k13
  have b13 := F13.binds (ps := ["some"]) fun _ _ _ _ _ _ us hl => match us, hl with | [_], _ => rfl
  have F14 := fun_mk (st := sMlt) l14 c14 k14
  have b14 := F14.binds (ps := ["some"]) fun _ _ _ _ _ _ us hl => match us, hl with | [_], _ => rfl
  have F15 := fun_mk (st := sCop) l15 c15 k15
  have b15 := F15.binds (ps := ["quotients"]) fun _ _ _ _ _ _ us hl => match us, hl with | [_], _ => rfl
  have F16 := fun_mk (st := sRight) l16 c16 k16
  have b16 := F16.binds (ps := ["some"]) fun _ _ _ _ _ _ us hl => match us, hl with | [_], _ => rfl
  have F17 := fun_mk (st := sWord) l17 c17 k17
  have b17 := F17.binds (ps := ["way", "some"]) fun _ _ _ _ _ _ us hl => match us, hl with | [_, _], _ => rfl
  have F18 := fun_mk (st := sLaw) l18 c18 k18
  have FN : FunD K "number" "number" (defArgs sNum) (defBody sNum) (defScope sNum) [.int 1] [] fNum _ := ⟨⟨_, _, _, _, _, _, _, _, _, _, rfl, n_l, n_c, .inr ⟨(fun z => nomatch z), tN, _, [.int 1 tk1], tm, rfl, n_t, rfl, .cons ⟨tk1, rfl⟩ .nil⟩, .inl rfl⟩, n_k⟩
  obtain ⟨ds, rds, bN⟩ := FN.binds1 (ps := ["above", "below"]) 2 1 (fun z => nomatch z) rfl fun T kV doc pm an cdv ct us its hu hi => match us, its, hu, hi with
    | [u, v], [d], _, _ => ⟨_, rfl, rfl⟩
  cases rds
  have TN : TxtN P K mg C fI fNum g0 g1 g3 := ⟨ex, PySem.W.mg_of X G aC, PySem.W.mg_none_of X G z_super, PySem.W.mg_none_of X G z_len, PySem.W.mg_none_of X G z_isinstance, PySem.W.mg_none_of X G z_int, PySem.W.mg_none_of X G z_bool, PySem.W.mg_none_of X G z_tuple, PySem.W.mg_of X G aG,
    PySem.W.mg_of X G n_a, n_k, (PySem.W.mg_of X G a0), k0, (PySem.W.mg_of X G a1), k1, (PySem.W.mg_of X G a3), k3⟩
  have TM : TxtM P K mg C2 f2 := ⟨ex2, PySem.W.mg_of X G bC, PySem.W.mg_of X G aL⟩
  have DN : DefN K fNum _ _ _ _ _ _ _ := ⟨FN, F0, F1, F3, bN, b0, b1, b3⟩
  have TD : TxtD K mg g8 := ⟨PySem.W.mg_none_of X G z_len, (PySem.W.mg_of X G a8), k8⟩
  have TS : TxtS mg := ⟨PySem.W.mg_none_of X G z_range, PySem.W.mg_none_of X G z_repr, PySem.W.mg_none_of X G z_min, PySem.W.mg_none_of X G z_len⟩
  have TW : TxtW K mg C C2 cP cS cM := ⟨PySem.W.mg_of X G aP, PySem.W.mg_of X G aS, PySem.W.mg_of X G aM, exm_three (exm_of s_bP s_iP s_tP s_sP) (exm_of s_bS s_iS s_tS s_sS) (exm_of s_bM s_iM s_tM s_sM), exm_three (exm_of s_bP s_iP s_tP s_sP2) (exm_of s_bS s_iS s_tS s_sS2) (exm_of s_bM s_iM s_tM s_sM2), kit_same, kit_same, kit_ne neC cl2 e_ty2 sbN⟩
  refine ⟨PySem.W.fnOf "law" "law" (defArgs sLaw) (defBody sLaw) (defScope sLaw) .none kV18 dc18 pm18 an18 cd18 ct18, fun s u => .of_eq rfl, fun base _ _ => ?_⟩
  have cIs : Cal P w K mg base "is_number" _ _ 2 ["thing"] (spIsN K) := ⟨ok_isN F1 TN F0 b0, (PySem.W.mg_of X G a1), k1, b1⟩
  have cPo : Cal P w K mg base "is_positive" _ _ 3 ["thing"] (spB K isP) := ⟨ok_pos F2 cIs, (PySem.W.mg_of X G a2), k2, b2⟩
  have cC : Cal P w K mg base "check_positive_numbers" _ _ 4 ["numbers"] (spCPN K C C2) := ⟨ok_cpn F6 TN TM cPo, (PySem.W.mg_of X G a6), k6, b6⟩
  have cG : CalS P w K mg base "greatest_measure" _ 5 (spMs K C C2 meas) := ⟨ms_of (f1 := Nat.gcd) (f2 := Nat.lcm) (f := meas) (fun _ _ => rfl) (fn_star (most := 4) l19 c19 scGr (by rw [sizeLine_eq]; decide) (fun rest hl => bind_gre _ _ _ _ _ _ rest) (fun A outer s H vs Q E hr hgd h => does_gre TN TM cC _ A outer s H vs Q E hr hgd h)), (PySem.W.mg_of X G a19), k19⟩
  have cL : CalS P w K mg base "least_multiple" _ 5 (spMs K C C2 mult) := ⟨ms_of (f1 := Nat.lcm) (f2 := Nat.gcd) (f := mult) (fun _ _ => rfl) (fn_star (most := 4) l20 c20 scLm (by rw [sizeLine_eq]; decide) (fun rest hl => bind_lea _ _ _ _ _ _ rest) (fun A outer s H vs Q E hr hgd h => does_lea TN TM cC _ A outer s H vs Q E hr hgd h)), (PySem.W.mg_of X G a20), k20⟩
  have cN : Cal P w K mg base "_law_next" _ _ 2 ["draw", "bound"] (bx spNext) := ⟨fn_bx (ok_next F9 TD F8 b8), (PySem.W.mg_of X G a9), k9, b9⟩
  have cP' : Cal P w K mg base "_law_positive" _ _ 3 ["draw"] (bx spPst) := ⟨fn_bx (ok_pst F11 TS cN), (PySem.W.mg_of X G a11), k11, b11⟩
  have cU : Cal P w K mg base "number" fNum _ 2 ["above", "below"] (bx (spNum K C)) := ⟨fn_bx (ok_num FN TN F0 b0), PySem.W.mg_of X G n_a, n_k, bN⟩
  have cMl : Cal P w K mg base "multiply" _ _ 4 ["first", "second"] (bx (spBin K C (fun a b c g => a * c) (fun a b c g => b * g))) := ⟨fn_bx (ok_mul F4 TN DN), (PySem.W.mg_of X G a4), k4, b4⟩
  have cDi : Cal P w K mg base "divide" _ _ 4 ["first", "second"] (bx (spDiv K C)) := ⟨fn_bx (ok_div F5 TN DN), (PySem.W.mg_of X G a5), k5, b5⟩
  have cSo : Cal P w K mg base "_law_some" _ _ 5 ["draw"] (bx (spSome K)) := ⟨fn_bx (ok_some F12 TS cN cP' cU cMl), (PySem.W.mg_of X G a12), k12, b12⟩
  have cMe : Cal P w K mg base "_law_measure" _ _ 6 ["some"] (bx (spLM K C C2 meas)) := ⟨fn_bx (ok_mea F13 TS cG), (PySem.W.mg_of X G a13), k13, b13⟩
  have cMu : Cal P w K mg base "_law_multiple" _ _ 6 ["some"] (bx (spLM K C C2 mult)) := ⟨fn_bx (ok_mlt F14 TS cL), (PySem.W.mg_of X G a14), k14, b14⟩
  have cDv : Cal P w K mg base "_law_divisor" _ _ 1 ["one", "other"] (bx spDvs) := ⟨fn_bx (ok_dvs F10), (PySem.W.mg_of X G a10), k10, b10⟩
  have cCo : Cal P w K mg base "_law_are_coprime" _ _ 2 ["quotients"] (bx (spCo K)) := ⟨fn_bx (ok_cop F15 cDv), (PySem.W.mg_of X G a15), k15, b15⟩
  have O : Ops P w K mg base C C2 _ _ _ _ _ _ _ _ _ _ _ _ := ⟨cMe, cMu, cIs, cDi, cMl, cCo⟩
  have cR : Cal P w K mg base "_law_right" _ _ 7 ["some"] (bx (spRight K)) := ⟨fn_bx (ok_right F16 TS O), (PySem.W.mg_of X G a16), k16, b16⟩
  have cW : Cal P w K mg base "_law_word" _ _ 7 ["way", "some"] (bx (spWord K)) := ⟨fn_bx (ok_word F17 TN TM TW cMe cMu cG cL), (PySem.W.mg_of X G a17), k17, b17⟩
  have cB : Cal P w K mg base "_law_begin" _ _ 1 ["script"] (bx (spBegin K)) := ⟨fn_bx (ok_begin F7), (PySem.W.mg_of X G a7), k7, b7⟩
  exact ok_law F18 TS cW cN cR cSo cB
theorem walk {l : PySem.W.OpenLaw} {q : Program} {loose : List Str} {XP : (Str → Option Value) → Heap → Prop} {YP : World → Heap → Prop} {d : DefRec} {K : Params → PySem.W.Frag} (hn : l.most = some 63) (hdf : d.params.defaults = [])
    (own : ∀ (w : World) (h : Heap), YP w h → (K w.params).In h)
    (F : ∀ (w : World) (mg : Str → Option Value) (fa : Addr) (h : Heap), (K w.params).In h → h.Ns mainGlobals mg → mg d.name = some (.ref fa) →
      ∃ fd : FuncData, (∀ (s : Shared) (u : Value), BindsTo s fd ⟨[u], []⟩ [("script", u)]) ∧ ∀ base : Heap, (K w.params).In base → base.Ns mainGlobals mg → FnG l.prog w (K w.params) mg base 8 fa fd ["script"] (spLaw (K w.params))) :
    PySem.W.WalkO q loose XP YP l.row.toRowW d [] (fun f vs => PySem.call f vs) :=
  walk_ofG (n := 63) (k := 8) (x := "script") (sp := spLaw) hn (by decide) hdf ⟨rfl, by decide, by decide⟩ own F fun _ _ a ns hl hS => ⟨a, ns, rfl, hS, hl, fun _ => rfl⟩
end K4
set_option Elab.async false
set_option linter.all false
open PySem PySem.W PyProof.Rows
set_option maxRecDepth 100000 in
set_option maxHeartbeats 0 in
theorem PySem.Challenge.cw_roompace_k04_measures_and_multiples_holds : PySem.Challenge.rw_roompace_k04_measures_and_multiples.Holds := by
  w_on; o_law; k_head; (case hw => w_witness2)
  k_fill
  refine K4.walk (l := PySem.Challenge.rw_roompace_k04_measures_and_multiples) rfl rfl (fun w h Y => PySem.W.kIn_of Y) ?F
  case F =>
    intro w mg fa h KX G hmg
    refine' K4.all_mk KX G hmg ?aC ?bC ?aP ?aS ?aM ?aG ?aL ?z_len ?z_isinstance ?z_int ?z_bool ?z_tuple ?z_super ?z_range ?z_min ?z_repr ?e_op ?e_cn ?e_ct ?i_top ?xL ?e_sa ?e_ga ?e_gg ?e_nF ?e_iC ?e_tI ?e_kC ?e_ex ?e_ty ?e_hd ?e_su ?e_hB ?e_me ?e_ca ?e_cm ?i_l ?i_c ?i_cc ?i_cd ?i_f2 ?i_fe ?s_sP ?s_sS ?s_sM ?xL2 ?e_sa2 ?e_ga2 ?e_gg2 ?e_nF2 ?e_iC2 ?e_tI2 ?e_kC2 ?e_ex2 ?e_ty2 ?e_hd2 ?e_su2 ?e_hB2 ?e_me2 ?e_ca2 ?e_cm2 ?i_l2 ?i_c2 ?i_cc2 ?i_cd2 ?i_f22 ?i_fe2 ?s_sP2 ?s_sS2 ?s_sM2 ?neC ?cl2 ?sbN ?s_bP ?s_iP ?s_tP ?s_bS ?s_iS ?s_tS ?s_bM ?s_iM ?s_tM ?n_a ?n_l ?n_t ?n_c ?n_k ?a0 ?l0 ?c0 ?k0 ?a1 ?l1 ?c1 ?k1 ?a2 ?l2 ?c2 ?k2 ?a3 ?l3 ?c3 ?k3 ?a4 ?l4 ?c4 ?k4 ?a5 ?l5 ?c5 ?k5 ?a6 ?l6 ?c6 ?k6 ?a7 ?l7 ?c7 ?k7 ?a8 ?l8 ?c8 ?k8 ?a9 ?l9 ?c9 ?k9 ?a10 ?l10 ?c10 ?k10 ?a11 ?l11 ?c11 ?k11 ?a12 ?l12 ?c12 ?k12 ?a13 ?l13 ?c13 ?k13 ?a14 ?l14 ?c14 ?k14 ?a15 ?l15 ?c15 ?k15 ?a16 ?l16 ?c16 ?k16 ?a17 ?l17 ?c17 ?k17 ?a18 ?l18 ?c18 ?k18 ?a19 ?l19 ?c19 ?k19 ?a20 ?l20 ?c20 ?k20
    (case aC => k_is)
    (case bC => k_is)
    (case aP => k_is)
    (case aS => k_is)
    (case aM => k_is)
    (case aG => k_is)
    (case aL => k_is)
    (case z_len => k_is)
    (case z_isinstance => k_is)
    (case z_int => k_is)
    (case z_bool => k_is)
    (case z_tuple => k_is)
    (case z_super => k_is)
    (case z_range => k_is)
    (case z_min => k_is)
    (case z_repr => k_is)
    (case e_op => k_is)
    (case e_cn => k_is)
    (case e_ct => k_is)
    (case i_top => (first | rfl | decide))
    (case xL => k_is)
    (case e_sa => k_is)
    (case e_ga => k_is)
    (case e_gg => k_is)
    (case e_nF => k_is)
    (case e_iC => k_is)
    (case e_tI => k_is)
    (case e_kC => k_is)
    (case e_ex => k_is)
    (case e_ty => k_is)
    (case e_hd => k_is)
    (case e_su => ks_is)
    (case e_hB => k_is)
    (case e_me => k_is)
    (case e_ca => k_is)
    (case e_cm => k_is)
    (case i_l => k_is)
    (case i_c => k_is)
    (case i_cc => k_is)
    (case i_cd => k_is)
    (case i_f2 => rfl)
    (case i_fe => (first | rfl | decide))
    (case s_sP => k_is)
    (case s_sS => k_is)
    (case s_sM => k_is)
    (case xL2 => k_is)
    (case e_sa2 => k_is)
    (case e_ga2 => k_is)
    (case e_gg2 => k_is)
    (case e_nF2 => k_is)
    (case e_iC2 => k_is)
    (case e_tI2 => k_is)
    (case e_kC2 => k_is)
    (case e_ex2 => k_is)
    (case e_ty2 => k_is)
    (case e_hd2 => k_is)
    (case e_su2 => ks_is)
    (case e_hB2 => k_is)
    (case e_me2 => k_is)
    (case e_ca2 => k_is)
    (case e_cm2 => k_is)
    (case i_l2 => k_is)
    (case i_c2 => k_is)
    (case i_cc2 => k_is)
    (case i_cd2 => k_is)
    (case i_f22 => rfl)
    (case i_fe2 => (first | rfl | decide))
    (case s_sP2 => k_is)
    (case s_sS2 => k_is)
    (case s_sM2 => k_is)
    (case neC => (first | decide | (intro z; cases z)))
    (case cl2 => k_is)
    (case sbN => k_is)
    (case s_bP => k_is)
    (case s_iP => k_is)
    (case s_tP => k_is)
    (case s_bS => k_is)
    (case s_iS => k_is)
    (case s_tS => k_is)
    (case s_bM => k_is)
    (case s_iM => k_is)
    (case s_tM => k_is)
    (case n_a => k_is)
    (case n_l => k_is)
    (case n_t => k_is)
    (case n_c => k_is)
    (case n_k => k_is)
    (case a0 => k_is)
    (case l0 => k_is)
    (case c0 => k_is)
    (case k0 => k_is)
    (case a1 => k_is)
    (case l1 => k_is)
    (case c1 => k_is)
    (case k1 => k_is)
    (case a2 => k_is)
    (case l2 => k_is)
    (case c2 => k_is)
    (case k2 => k_is)
    (case a3 => k_is)
    (case l3 => k_is)
    (case c3 => k_is)
    (case k3 => k_is)
    (case a4 => k_is)
    (case l4 => k_is)
    (case c4 => k_is)
    (case k4 => k_is)
    (case a5 => k_is)
    (case l5 => k_is)
    (case c5 => k_is)
    (case k5 => k_is)
    (case a6 => k_is)
    (case l6 => k_is)
    (case c6 => k_is)
    (case k6 => k_is)
    (case a7 => k_is)
    (case l7 => k_is)
    (case c7 => k_is)
    (case k7 => k_is)
    (case a8 => k_is)
    (case l8 => k_is)
    (case c8 => k_is)
    (case k8 => k_is)
    (case a9 => k_is)
    (case l9 => k_is)
    (case c9 => k_is)
    (case k9 => k_is)
    (case a10 => k_is)
    (case l10 => k_is)
    (case c10 => k_is)
    (case k10 => k_is)
    (case a11 => k_is)
    (case l11 => k_is)
    (case c11 => k_is)
    (case k11 => k_is)
    (case a12 => k_is)
    (case l12 => k_is)
    (case c12 => k_is)
    (case k12 => k_is)
    (case a13 => k_is)
    (case l13 => k_is)
    (case c13 => k_is)
    (case k13 => k_is)
    (case a14 => k_is)
    (case l14 => k_is)
    (case c14 => k_is)
    (case k14 => k_is)
    (case a15 => k_is)
    (case l15 => k_is)
    (case c15 => k_is)
    (case k15 => k_is)
    (case a16 => k_is)
    (case l16 => k_is)
    (case c16 => k_is)
    (case k16 => k_is)
    (case a17 => k_is)
    (case l17 => k_is)
    (case c17 => k_is)
    (case k17 => k_is)
    (case a18 => k_is)
    (case l18 => k_is)
    (case c18 => k_is)
    (case k18 => k_is)
    (case a19 => k_is)
    (case l19 => k_is)
    (case c19 => k_is)
    (case k19 => k_is)
    (case a20 => k_is)
    (case l20 => k_is)
    (case c20 => k_is)
    (case k20 => k_is)
