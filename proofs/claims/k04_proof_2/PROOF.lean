import PyProof.Rows.All
import Wide.All
import OpenK.AllK
import Wide.FinOn
import HandS.Words
import HandS.ForMost
import HandS.IsInst
import HandS.TupAny
import HandS.Style
import HandS.Conv
import HandS.Codes
import KE.SortData
import HandS.SortKw
import HandS.EndTab
import HandS.NestedK
import HandS.Zip
import HandS.Dict
import HandS.Iter
import KE.KDictPairs
import KE.KDictZip
import KE.GoesMore
import KE.DataCmp
import HandS.Walk
import HandS.ListItems
import HandS.TupMul
import KE.KItemsList
import HandS.HeadHook4
import HandS.HeadEnd
import HandS.Head2
import HandS.CallRecv
import PySem.Challenge.RW_pathfolios_k04_found
set_option Elab.async false
set_option linter.all false
set_option maxRecDepth 100000
set_option maxHeartbeats 4000000
/-! Defs called where no repr is under way: the promises of HandS with one premise more about what runs around. -/
namespace Dat
open PySem PySem.Spec PyProof.Rows L2

/-- nothing that guards against itself is under way -/
abbrev Gd (A : Around) : Prop := A.guards = some []
theorem Gd.deeper {A : Around} {env : Env} (g : Gd A) : Gd (A.deeper env) := g

structure FnG (P : Program) (w : World) (K : PySem.W.Frag) (mg : Str → Option Value) (base : Heap) (k : Nat) (f : Addr) (fd : FuncData) (ps : List Str) (sp : Sp) : Prop where
  len : ∀ vs H Q E, sp vs H Q E → vs.length = ps.length
  run : ∀ (A : Around) (outer : List Env) (s : Shared) (H : Hp) (args : Args) (us : List Value) (vs : List V) (Q : VK) (E : XK),
    Gd A → Room k A → Env0 P w K mg base A outer s H → BindsTo s fd args (ps.zip us) → Vals vs us → sp vs H Q E →
    codeAny (model P w) A (.call (.ref f) args) (CR CX0 outer P w H s Q E) s

section
variable {P : Program} {w : World} {K : PySem.W.Frag} {mg : Str → Option Value} {base : Heap}
theorem FnG.mono {j k : Nat} {f : Addr} {fd : FuncData} {ps : List Str} {sp : Sp} (F : FnG P w K mg base j f fd ps sp) (h : j ≤ k) : FnG P w K mg base k f fd ps sp :=
  ⟨F.len, fun A outer s H args us vs Q E g hr => F.run A outer s H args us vs Q E g (hr.mono h)⟩

/-- a def of the text, its code object told -/
structure FunC (K : PySem.W.Frag) (x qual : Str) (st : Stmt) (f : Addr) (fd : FuncData) (cd : Value) : Prop where
  ex : ∃ (oc : Value) (od : Option Addr) (kV doc pm : Value) (an : Option Addr) (ct : Value) (osl : Array (Option Value)),
    fd = PySem.W.fnOf x qual (defArgs st) (defBody st) (defScope st) .none kV doc pm an cd ct ∧ K.lookup f = some ⟨oc, od, .func fd, osl⟩ ∧ PySem.W.codeIn K cd qual = true
  kp : PySem.W.keepIn K (.ref f) = true
theorem FunC.fn {x qual : Str} {st : Stmt} {f : Addr} {fd : FuncData} {cd : Value} (F : FunC K x qual st f fd cd) : Fun K x qual st f fd := by
  obtain ⟨oc, od, kV, doc, pm, an, ct, osl, e, lk, hcd⟩ := F.ex
  exact ⟨⟨oc, od, kV, doc, pm, an, cd, ct, osl, e, lk, hcd⟩, F.kp⟩
theorem _root_.L2.Fun.code {x qual : Str} {st : Stmt} {f : Addr} {fd : FuncData} (F : Fun K x qual st f fd) : ∃ cd, FunC K x qual st f fd cd := by
  obtain ⟨oc, od, kV, doc, pm, an, cdv, ct, osl, e, lk, hcd⟩ := F.ex
  exact ⟨cdv, ⟨oc, od, kV, doc, pm, an, ct, osl, e, lk, hcd⟩, F.kp⟩

/-- a def of the text by its body, nothing guarded around -/
theorem fnGC {x qual : Str} {st : Stmt} {f : Addr} {fd : FuncData} {N ps : List Str} {k : Nat} {sp : Sp}
    {cdv : Value} (F : FunC K x qual st f fd cdv) (S : FnScope N ps (defScope st))
    (len : ∀ vs H Q E, sp vs H Q E → vs.length = ps.length)
    (body : ∀ (A : Around) (outer : List Env) (s : Shared) (H : Hp) (vs : List V) (Q : VK) (E : XK),
      Gd A → Room k (A.deeper (envOfC qual (defScope st) s.heap.objs.size f cdv)) → sp vs H Q E →
      ∃ t, PSs (cxOf CX0 P w K mg base N qual (defScope st) f cdv A outer s H E).nox (defBody st) t ∧
        t { nx := fun _ H' => Q .non H', rt := Q } (start N vs) H) :
    FnG P w K mg base (k + 1) f fd ps sp := by
  obtain ⟨oc, od, kV, doc, pm, an, ct, osl, e, lk, hcd⟩ := F.ex
  subst e
  refine ⟨len, ?_⟩
  intro A outer s H args us vs Q E gd hr e0 hb rel want
  have keep : ∀ b o, base.get? b = some o → s.heap.get? b = some o := fun b o q => (e0.bs b o q).1
  have inS := e0.mod.kin.keeps keep
  have kinds : ∀ y ∈ ps.zip us, (defScope st).names.lookup y.1 = some .local ∨
      ((defScope st).names.lookup y.1 = some .cell ∧
        ((cellsFrom (s.heap.objs.size + 1) (defScope st).names []).lookup y.1).isSome = true) := by
    rintro ⟨n, v⟩ hy
    cases S.par n (List.of_mem_zip hy).1 with
    | inl q => exact Or.inl q
    | inr q => exact Or.inr ⟨q, PySem.W.cellsFrom_some _ _ _ (Or.inl q)⟩
  refine codeAny_call_function hr.depth (inS _ _ lk) rfl S.co S.gen rfl
    (PySem.W.codeRec_of inS hcd) (hb _ _ _ _ ?_)
  refine wpAny_newFunctionEnv_cells S.kind kinds fun env he s1 x => ?_
  subst he
  refine ⟨(e0.mod.nolimit.keeps keep).keeps x.toInCall.keep, codeAny_func ?_⟩
  obtain ⟨t, ht, hq⟩ := body A outer s H vs Q E gd (hr.deeper _) want
  have I := inv_start (CX := CX0) (cd := cdv) (f := f) (qual := qual) (N := N) (E := E) S hr.hd e0 (len _ _ _ _ want) rel x
  have done : ∀ {σ' : L2.St} {H' : Hp} {v : V} {u : Value} {s' : Shared},
      Inv (cxOf CX0 P w K mg base N qual (defScope st) f cdv A outer s H E) [] σ' H' s' →
      RelV v u → Q v H' → CE outer P w H s Q u s' :=
    fun J rv q => ⟨_, _, J.os, J.bare, J.base, J.hok, rv, q⟩
  refine wpAny_mono (ht.nox.run [] s1 (start N vs) H _ I hq) ?_ (fun e s' hs => hs)
  intro fl s' hs
  cases fl with
  | next => obtain ⟨σ', H', J, q⟩ := hs; exact done (v := V.non) (u := Value.none) J rfl q
  | ret u => obtain ⟨v, σ', H', J, rv, q⟩ := hs; exact done J rv q
  | brk => obtain ⟨_, _, _, q⟩ := hs; exact q.elim
  | cont => obtain ⟨_, _, _, q⟩ := hs; exact q.elim

theorem fnG {x qual : Str} {st : Stmt} {f : Addr} {fd : FuncData} {N ps : List Str} {k : Nat} {sp : Sp}
    (F : Fun K x qual st f fd) (S : FnScope N ps (defScope st))
    (len : ∀ vs H Q E, sp vs H Q E → vs.length = ps.length)
    (body : ∀ (cdv : Value) (A : Around) (outer : List Env) (s : Shared) (H : Hp) (vs : List V) (Q : VK) (E : XK),
      Gd A → Room k (A.deeper (envOfC qual (defScope st) s.heap.objs.size f cdv)) → sp vs H Q E →
      ∃ t, PSs (cxOf CX0 P w K mg base N qual (defScope st) f cdv A outer s H E).nox (defBody st) t ∧
        t { nx := fun _ H' => Q .non H', rt := Q } (start N vs) H) :
    FnG P w K mg base (k + 1) f fd ps sp := by
  obtain ⟨cdv, FC⟩ := F.code
  exact fnGC FC S len (body cdv)

/-- a def that may be called by its name; dvs: the defaults that fill up -/
structure CalG (P : Program) (w : World) (K : PySem.W.Frag) (mg : Str → Option Value) (base : Heap) (k : Nat) (x : Str) (sp : Sp) (dvs : List V) : Prop where
  ex : ∃ (f : Addr) (fd : FuncData) (ps : List Str) (ds : List Value),
    FnG P w K mg base k f fd ps sp ∧ mg x = some (.ref f) ∧ PySem.W.keepIn K (.ref f) = true ∧ Binds K fd ps ds ∧ Vals dvs ds
theorem CalG.mono {j k : Nat} {x : Str} {sp : Sp} {dvs : List V} (c : CalG P w K mg base j x sp dvs) (h : j ≤ k) : CalG P w K mg base k x sp dvs := by
  obtain ⟨f, fd, ps, ds, F, r⟩ := c.ex
  exact ⟨f, fd, ps, ds, F.mono h, r⟩
/-- what the top has of a def -/
structure DefG (K : PySem.W.Frag) (mg : Str → Option Value) (x : Str) (st : Stmt) : Prop where
  ex : ∃ (f : Addr) (fd : FuncData), Fun K x x st f fd ∧ mg x = some (.ref f)
theorem calG {x : Str} {st : Stmt} {N ps : List Str} {k : Nat} {sp : Sp} (D : DefG K mg x st) (S : FnScope N ps (defScope st))
    (b : ∀ f fd, Fun K x x st f fd → Binds K fd ps [])
    (len : ∀ vs H Q E, sp vs H Q E → vs.length = ps.length)
    (body : ∀ (f : Addr) (cdv : Value) (A : Around) (outer : List Env) (s : Shared) (H : Hp) (vs : List V) (Q : VK) (E : XK),
      Gd A → Room k (A.deeper (envOfC x (defScope st) s.heap.objs.size f cdv)) → sp vs H Q E →
      ∃ t, PSs (cxOf CX0 P w K mg base N x (defScope st) f cdv A outer s H E).nox (defBody st) t ∧
        t { nx := fun _ H' => Q .non H', rt := Q } (start N vs) H) :
    CalG P w K mg base (k + 1) x sp [] := by
  obtain ⟨f, fd, F, hm⟩ := D.ex
  exact ⟨f, fd, ps, [], fnG F S len (body f), hm, F.kp, b f fd F, .nil⟩
/-- .. its code object told: for defs that make lambdas -/
structure DefC (K : PySem.W.Frag) (mg : Str → Option Value) (x : Str) (st : Stmt) (cd : Value) : Prop where
  ex : ∃ (f : Addr) (fd : FuncData), FunC K x x st f fd cd ∧ mg x = some (.ref f)
theorem calGC {x : Str} {st : Stmt} {cd : Value} {N ps : List Str} {k : Nat} {sp : Sp} (D : DefC K mg x st cd) (S : FnScope N ps (defScope st))
    (b : ∀ f fd, Fun K x x st f fd → Binds K fd ps [])
    (len : ∀ vs H Q E, sp vs H Q E → vs.length = ps.length)
    (body : ∀ (f : Addr) (A : Around) (outer : List Env) (s : Shared) (H : Hp) (vs : List V) (Q : VK) (E : XK),
      Gd A → Room k (A.deeper (envOfC x (defScope st) s.heap.objs.size f cd)) → sp vs H Q E →
      ∃ t, PSs (cxOf CX0 P w K mg base N x (defScope st) f cd A outer s H E).nox (defBody st) t ∧
        t { nx := fun _ H' => Q .non H', rt := Q } (start N vs) H) :
    CalG P w K mg base (k + 1) x sp [] := by
  obtain ⟨f, fd, F, hm⟩ := D.ex
  exact ⟨f, fd, ps, [], fnGC F S len (body f), hm, F.kp, b f fd F.fn, .nil⟩
end

section
variable {X : Cx} {k j : Nat} {x : Str} {sp : Sp} {dvs : List V} {p pos : Pos} {e : Expr} {es : List Expr} {t : TA}
theorem pe_cG (c : CalG X.prog X.w X.K X.mg X.base k x sp dvs) (gd : Gd X.A) (hr : Room j X.A) (hk : k ≤ j) (hg : Gl X x) (ha : PA X (e :: es) t)
    (hdb : (x == ("__debug__" : Str)) = false := by decide)
    (he : starEach (e :: es) X.env = (false, eval e X.env) :: starEach es X.env := by rfl)
    (hpl : (backTo pos (starEach es X.env)).any (·.1) = false := by rfl) :
    PE X (.Call (.Name x p) (e :: es) [] pos) (tCall sp dvs E0 t) := by
  obtain ⟨f, fd, ps, ds, F, hm, kp, b, d⟩ := c.ex
  refine ⟨fun pins s σ H Q I h => wpAny_Call_Name_kw (ld_glob I hg hm ?_ hdb)⟩
  refine PySem.W.callWith_K (h₀ := X.base) I.ok.mod.kin kp ?_ he hpl
  refine thn (ha.run pos pins s σ H _ I h) ?_
  rintro us s1 ⟨vs, H1, I1, rv, q⟩
  have want : sp (vs ++ dvs) H1 Q E0 := q
  have rel : Vals (vs ++ dvs) (us ++ ds) := rv.append d
  have ln : (us ++ ds).length = ps.length := by rw [← rel.length]; exact F.len _ _ _ _ want
  refine ⟨I1.kIn, wpAny_call (codeAny_mono (F.run X.A X.stack s1 H1 ⟨us, []⟩ (us ++ ds) (vs ++ dvs) Q E0 gd (hr.mono hk) I1.env0 (b s1 us I1.kIn ln) rel want) ?_)⟩
  intro r s' hq
  cases r with
  | error e => exact False.elim hq
  | ok fl =>
    cases fl with
    | ret u => exact I1.after hq
    | next => exact False.elim hq
    | brk => exact False.elim hq
    | cont => exact False.elim hq
end
end Dat

set_option Elab.async false
set_option linter.all false
set_option maxRecDepth 100000
set_option maxHeartbeats 4000000
/-! Data over the abstract heap: what stays, what is read, what repr tells. -/
namespace Dat
open PySem PySem.Spec PyProof.Rows L2

/-! ### what stays but at S -/
def Kp (S : List Addr) (H H' : Hp) : Prop := ∀ a o, H a = some o → a ∉ S → H' a = some o
theorem Kp.refl (S : List Addr) (H : Hp) : Kp S H H := fun _ _ h _ => h
theorem Kp.trans {S : List Addr} {H H1 H2 : Hp} (a : Kp S H H1) (b : Kp S H1 H2) : Kp S H H2 := fun c o h n => b c o (a c o h n) n
theorem Kp.wide {S S' : List Addr} {H H1 : Hp} (a : Kp S H H1) (h : ∀ x ∈ S, x ∈ S') : Kp S' H H1 := fun c o e n => a c o e fun z => n (h c z)
theorem Kp.same {H H1 : Hp} (a : Kp [] H H1) : Same H H1 := fun c o e => a c o e (by simp)
theorem Kp.of {S : List Addr} {H H1 : Hp} (a : Same H H1) : Kp S H H1 := fun c o e _ => a c o e
theorem Kp.new {S : List Addr} {H : Hp} {p : Addr} {o : HO} (h : H p = none) : Kp S H (upd H p o) := fun a u e _ => by
  rw [upd_ne (ne_of_none e h)]
  exact e
theorem Kp.set {S : List Addr} {H : Hp} {p : Addr} {o : HO} (h : p ∈ S) : Kp S H (upd H p o) := fun a u e n => by
  have z : a ≠ p := fun z => n (by rw [z]; exact h)
  rw [upd_ne z]
  exact e
/-- an address that H does not know may be left out -/
theorem Kp.drop {S : List Addr} {H H1 : Hp} {p : Addr} (a : Kp (p :: S) H H1) (h : H p = none) : Kp S H H1 := fun c o e n =>
  a c o e (by
    intro z
    rcases List.mem_cons.mp z with z | z
    · exact ne_of_none e h z
    · exact n z)
theorem Kp.at {S : List Addr} {H H1 : Hp} {p : Addr} {o : HO} (a : Kp S H H1) (h : H p = some o) (n : p ∉ S) : H1 p = some o := a p o h n
/-- what is new behind was new ahead -/
theorem Kp.free {S : List Addr} {H H1 : Hp} {p : Addr} (a : Kp S H H1) (h : H1 p = none) (n : p ∉ S) : H p = none := by
  cases q : H p with
  | none => rfl
  | some o =>
    rw [a p o q n] at h
    cases h
theorem same_new {H : Hp} {p : Addr} {o : HO} (h : H p = none) : Same H (upd H p o) := fun b x e => by
  rw [upd_ne (ne_of_none e h)]
  exact e

/-! ### tuples of tuples, no lists: no store turns them -/
mutual
def tupD : PyData → Bool
  | .none => true
  | .bool _ => true
  | .int _ => true
  | .str _ => true
  | .list _ => false
  | .tuple xs => tupDs xs
  | .dict _ => false
def tupDs : List PyData → Bool
  | [] => true
  | x :: xs => tupD x && tupDs xs
end
theorem tupD_tuple (xs : List PyData) : tupD (.tuple xs) = tupDs xs := by simp [tupD]
theorem tupDs_cons (x : PyData) (xs : List PyData) : tupDs (x :: xs) = (tupD x && tupDs xs) := by simp [tupDs]
theorem tupDs_all {xs : List PyData} : tupDs xs = true ↔ ∀ x ∈ xs, tupD x = true := by
  induction xs with
  | nil => simp [tupDs]
  | cons x xs ih => simp [tupDs, ih]
theorem tupDs_append (xs ys : List PyData) : tupDs (xs ++ ys) = (tupDs xs && tupDs ys) := by
  induction xs with
  | nil => simp [tupDs]
  | cons x xs ih => simp [tupDs, ih, Bool.and_assoc]

/-- the tuples are read on -/
def TupK (H H' : Hp) : Prop := ∀ a xs, Rd H a (.tup xs) → Rd H' a (.tup xs)
theorem TupK.refl (H : Hp) : TupK H H := fun _ _ h => h
theorem TupK.trans {H H1 H2 : Hp} (a : TupK H H1) (b : TupK H1 H2) : TupK H H2 := fun c xs h => b c xs (a c xs h)
theorem TupK.of {H H' : Hp} (e : Same H H') : TupK H H' := fun a xs h => by
  rcases h with h | ⟨o, h⟩
  · exact .inl (e _ _ h)
  · exact .inr ⟨o, e _ _ h⟩
/-- at each place of S a list (or something that isn't known) -/
def LstAt (H : Hp) (a : Addr) : Prop := ∀ xs, ¬ Rd H a (.tup xs)
theorem LstAt.lst {H : Hp} {a : Addr} {xs : List V} (h : H a = some (.lst xs)) : LstAt H a := fun ys r => by
  rcases r with r | ⟨o, r⟩ <;> rw [h] at r <;> cases r
theorem LstAt.none {H : Hp} {a : Addr} (h : H a = none) : LstAt H a := fun ys r => by
  rcases r with r | ⟨o, r⟩ <;> rw [h] at r <;> cases r
theorem Kp.tup {S : List Addr} {H H' : Hp} (k : Kp S H H') (hS : ∀ a ∈ S, LstAt H a) : TupK H H' := fun a xs h => by
  have n : a ∉ S := fun z => hS a z xs h
  rcases h with h | ⟨o, h⟩
  · exact .inl (k _ _ h n)
  · exact .inr ⟨o, k _ _ h n⟩
theorem SqT.tk {K : PySem.W.Frag} {H H' : Hp} {a : Addr} {xs : List V} (e : TupK H H') (h : SqT K H a xs) : SqT K H' a xs := by
  rcases h with h | h
  · exact .inl (e _ _ h)
  · exact .inr h
theorem SqT.same {K : PySem.W.Frag} {H H' : Hp} {a : Addr} {xs : List V} (e : Same H H') (h : SqT K H a xs) : SqT K H' a xs := SqT.tk (TupK.of e) h

section
variable {K : PySem.W.Frag} {H H' : Hp}
mutual
theorem dp_tk (e : TupK H H') : ∀ (d : PyData) (v : V), tupD d = true → Dp K H v d → Dp K H' v d
  | .none, _, _, h => by cases h; exact .non
  | .bool _, _, _, h => by cases h; exact .bl _
  | .int _, _, _, h => by cases h; exact .int _
  | .str _, _, _, h => by cases h; exact .str _
  | .list _, _, t, _ => by simp [tupD] at t
  | .dict _, _, t, _ => by simp [tupD] at t
  | .tuple ds, _, t, h => by
    cases h with
    | tup hs ha => exact .tup (SqT.tk e hs) (dpAll_tk e ds _ (by simpa [tupD] using t) ha)
theorem dpAll_tk (e : TupK H H') : ∀ (ds : List PyData) (vs : List V), tupDs ds = true → DpAll K H vs ds → DpAll K H' vs ds
  | [], _, _, h => by cases h; exact .nil
  | d :: ds, _, t, h => by
    have t' : tupD d = true ∧ tupDs ds = true := by simpa [tupDs] using t
    cases h with
    | cons h1 h2 => exact .cons (dp_tk e d _ t'.1 h1) (dpAll_tk e ds _ t'.2 h2)
end
mutual
theorem dp_same (e : Same H H') : ∀ (d : PyData) (v : V), Dp K H v d → Dp K H' v d
  | .none, _, h => by cases h; exact .non
  | .bool _, _, h => by cases h; exact .bl _
  | .int _, _, h => by cases h; exact .int _
  | .str _, _, h => by cases h; exact .str _
  | .list ds, _, h => by
    cases h with
    | lst hs ha => exact .lst (e.seq hs) (dpAll_same e ds _ ha)
  | .dict _, _, h => by cases h
  | .tuple ds, _, h => by
    cases h with
    | tup hs ha => exact .tup (SqT.same e hs) (dpAll_same e ds _ ha)
theorem dpAll_same (e : Same H H') : ∀ (ds : List PyData) (vs : List V), DpAll K H vs ds → DpAll K H' vs ds
  | [], _, h => by cases h; exact .nil
  | d :: ds, _, h => by
    cases h with
    | cons h1 h2 => exact .cons (dp_same e d _ h1) (dpAll_same e ds _ h2)
end
theorem _root_.L2.Dp.on {v : V} {d : PyData} (h : Dp K H v d) (e : Same H H') : Dp K H' v d := dp_same e d v h
theorem _root_.L2.Dp.tk {v : V} {d : PyData} (h : Dp K H v d) (t : tupD d = true) (e : TupK H H') : Dp K H' v d := dp_tk e d v t h
theorem _root_.L2.DpAll.on {vs : List V} {ds : List PyData} (h : DpAll K H vs ds) (e : Same H H') : DpAll K H' vs ds := dpAll_same e ds vs h
theorem _root_.L2.DpAll.tk {vs : List V} {ds : List PyData} (h : DpAll K H vs ds) (t : tupDs ds = true) (e : TupK H H') : DpAll K H' vs ds := dpAll_tk e ds vs t h
theorem dpa_len : ∀ {vs : List V} {ds : List PyData}, DpAll K H vs ds → vs.length = ds.length
  | _, _, .nil => rfl
  | _, _, .cons _ t => by rw [List.length_cons, List.length_cons, dpa_len t]
theorem dpa_get : ∀ {vs : List V} {ds : List PyData} {i : Nat} {d : PyData}, DpAll K H vs ds → ds[i]? = some d → ∃ v, vs[i]? = some v ∧ Dp K H v d
  | _, _, _, _, .nil, e => by simp at e
  | _, _, 0, _, .cons r _, e => by simp at e; subst e; exact ⟨_, rfl, r⟩
  | _, _, i + 1, d, .cons _ t, e => by
    obtain ⟨v, h1, h2⟩ := dpa_get (i := i) (d := d) t (by simpa using e)
    exact ⟨v, by simpa using h1, h2⟩
theorem dpa_getV : ∀ {vs : List V} {ds : List PyData} {i : Nat} {v : V}, DpAll K H vs ds → vs[i]? = some v → ∃ d, ds[i]? = some d ∧ Dp K H v d
  | _, _, _, _, .nil, e => by simp at e
  | _, _, 0, _, .cons r _, e => by simp at e; subst e; exact ⟨_, rfl, r⟩
  | _, _, i + 1, v, .cons _ t, e => by
    obtain ⟨d, h1, h2⟩ := dpa_getV (i := i) (v := v) t (by simpa using e)
    exact ⟨d, by simpa using h1, h2⟩
theorem dpa_app : ∀ {vs ws : List V} {ds es : List PyData}, DpAll K H vs ds → DpAll K H ws es → DpAll K H (vs ++ ws) (ds ++ es)
  | _, _, _, _, .nil, h => h
  | _, _, _, _, .cons a t, h => .cons a (dpa_app t h)
theorem _root_.L2.DpAll.one {v : V} {d : PyData} (h : Dp K H v d) : DpAll K H [v] [d] := .cons h .nil
theorem dpAll_ints : ∀ ns : List Int, DpAll K H (ns.map V.int) (ns.map PyData.int)
  | [] => .nil
  | n :: ns => .cons (.int n) (dpAll_ints ns)
/-- a new tuple of data -/
theorem dp_new {p : Addr} {vs : List V} {ds : List PyData} (h : DpAll K H vs ds) (hp : H p = none) : Dp K (upd H p (.tup vs)) (.ref p) (.tuple ds) :=
  .tup (SqT.of upd_same) (h.on (same_new hp))
theorem dp_newL {p : Addr} {vs : List V} {ds : List PyData} (h : DpAll K H vs ds) (hp : H p = none) : Dp K (upd H p (.lst vs)) (.ref p) (.list ds) :=
  .lst (SqL.of upd_same) (h.on (same_new hp))
theorem _root_.L2.Dp.tupE {v : V} {ds : List PyData} (h : Dp K H v (.tuple ds)) : ∃ a vs, v = .ref a ∧ SqT K H a vs ∧ DpAll K H vs ds := by
  cases h with
  | tup hs ha => exact ⟨_, _, rfl, hs, ha⟩
theorem _root_.L2.Dp.lstE {v : V} {ds : List PyData} (h : Dp K H v (.list ds)) : ∃ a vs, v = .ref a ∧ SqL K H a vs ∧ DpAll K H vs ds := by
  cases h with
  | lst hs ha => exact ⟨_, _, rfl, hs, ha⟩
theorem _root_.L2.Dp.intE {v : V} {i : Int} (h : Dp K H v (.int i)) : v = .int i := by cases h; rfl
theorem _root_.L2.Dp.blE {v : V} {b : Bool} (h : Dp K H v (.bool b)) : v = .bl b := by cases h; rfl
theorem _root_.L2.Dp.strE {v : V} {x : Str} (h : Dp K H v (.str x)) : v = .str x := by cases h; rfl
end

/-! ### what type() tells of data -/
def tyN : PyData → String
  | .none => "NoneType"
  | .bool _ => "bool"
  | .int _ => "int"
  | .str _ => "str"
  | .list _ => "list"
  | .tuple _ => "tuple"
  | .dict _ => "dict"
theorem ty_of {K : PySem.W.Frag} {H : Hp} {v : V} {d : PyData} (h : Dp K H v d) : TyX K H v (.type (tyN d)) := by
  cases h with
  | non => exact .base .non
  | bl b => exact .base (.bl b)
  | int i => exact .base (.int i)
  | str x => exact .base (.str x)
  | lst hs _ =>
    rcases hs with (h | ⟨o, h⟩) | ⟨o, its, n, h1, h2, _⟩
    · exact .base (.lst h)
    · exact .base (.frz h)
    · exact .kList h1 h2
  | tup hs _ =>
    rcases hs with (h | ⟨o, h⟩) | ⟨o, its, n, h1, h2, _⟩
    · exact .base (.tup h)
    · exact .fTuple h
    · exact .kTuple h1 h2
/-- isinstance(x, T), T written -/
theorem isi_of {K : PySem.W.Frag} {H : Hp} {Q : VK} {v : V} {d : PyData} {T : String} {b : Bool} (h : Dp K H v d) (hk : PySem.W.kitOne K (.type (tyN d)) (.type T) = some b) (q : Q (.bl b) H) :
    rIsi K [v, .ty T] H Q := ⟨v, .ty T, .type (tyN d), .type T, b, rfl, .ty T, ty_of h, hk, q⟩

/-! ### repr -/
def rReprD (K : PySem.W.Frag) : List V → Hp → VK → Prop := fun xs H Q => ∃ v d, xs = [v] ∧ Dp K H v d ∧ d.showable = true ∧ d.depth ≤ 60 ∧ d.shown.length ≤ sizeLine ∧ Q (.str d.shown) H
mutual
theorem noDict_of {K : PySem.W.Frag} {H : Hp} : ∀ (d : PyData) (v : V), Dp K H v d → d.hasDict = false
  | .none, _, _ => by simp only [PyData.hasDict]
  | .bool _, _, _ => by simp only [PyData.hasDict]
  | .int _, _, _ => by simp only [PyData.hasDict]
  | .str _, _, _ => by simp only [PyData.hasDict]
  | .list ds, _, h => by
    cases h with
    | lst _ ha => simp only [PyData.hasDict]; exact noDicts_of ds _ ha
  | .tuple ds, _, h => by
    cases h with
    | tup _ ha => simp only [PyData.hasDict]; exact noDicts_of ds _ ha
  | .dict _, _, h => by cases h
theorem noDicts_of {K : PySem.W.Frag} {H : Hp} : ∀ (ds : List PyData) (vs : List V), DpAll K H vs ds → PyData.hasDictAll ds = false
  | [], _, _ => by simp only [PyData.hasDictAll]
  | d :: ds, _, h => by
    cases h with
    | cons h1 h2 => simp only [PyData.hasDictAll, noDict_of d _ h1, noDicts_of ds _ h2, Bool.or_self]
end
theorem call_reprD {X : Cx} (gd : Gd X.A) (hu : X.A.units + 64 < cLine) : CallR X (.builtin "repr") (rReprD X.K) := by
  intro pins s σ H xs us Q I r h
  obtain ⟨v, d, rfl, hd, hs, hz, hl, q⟩ := h
  obtain ⟨u, rfl, rv⟩ := Vals.one r
  have nd := noDict_of d v hd
  obtain ⟨as, rd⟩ := Dp.reads I d v u hd rv
  have fin : ∀ (h' : Heap) (tk : Tok) (t : Tok), (∀ b o, s.heap.get? b = some o → h'.get? b = some o) → EP X pins σ Q (.str d.shown t) { s with heap := h', toks := tk } :=
    fun h' tk t k => ⟨.str d.shown, H, I.kept k, ⟨t, rfl⟩, q⟩
  cases hd with
  | non => cases rv; exact PySem.P.repr_of_none (by have z := fin s.heap (s.toks + 1) s.toks (fun _ _ e => e); simpa only [PyData.shown] using z)
  | bl b => cases rv; exact PySem.P.repr_of_bool (by have z := fin s.heap (s.toks + 1) s.toks (fun _ _ e => e); simpa only [PyData.shown] using z)
  | int i =>
    obtain ⟨t, rfl⟩ := rv
    exact PySem.P.repr_of_int (by simpa [PyData.showable] using hs) (by have z := fin s.heap (s.toks + 1) s.toks (fun _ _ e => e); simpa only [PyData.shown] using z)
  | str x =>
    obtain ⟨t, rfl⟩ := rv
    exact PySem.P.repr_of_str (by have z := fin s.heap (s.toks + 1) s.toks (fun _ _ e => e); simpa only [PyData.shown] using z) (by simpa only [PyData.shown] using hl)
  | lst _ _ =>
    cases rv
    exact repr_of_reads' rd hs (PyData.noDict_hsm nd) gd (by omega) (fun _ _ e => e) (fun h' u tk k => fin h' tk u k) hl
  | tup _ _ =>
    cases rv
    exact repr_of_reads' rd hs (PyData.noDict_hsm nd) gd (by omega) (fun _ _ e => e) (fun h' u tk k => fin h' tk u k) hl
end Dat

set_option Elab.async false
set_option linter.all false
set_option maxRecDepth 100000
set_option maxHeartbeats 4000000
/-! Keys that can be ordered: alike ones, or pairs of a number and a thing, alike where the numbers are. -/
namespace Dat
open PySem PySem.Spec PyProof.Rows L2 PySem.W

structure SortK (kz : List PyData) : Prop where
  key : ∀ {h : Heap} {v : Value} {d : PyData} {as : List Addr}, d ∈ kz → Reads h v d as → (dataKind h kz).keyOf v = some (keyToks d)
  srt : ∀ {P : Program} {w : World} {A : Around} {s : Shared} {vs : List Value}, EachIs (fun v d => ∃ as, Reads s.heap v d as) vs kz → (∀ d ∈ kz, A.units + d.depth < cLine) → SortsAt P w A s (dataKind s.heap kz) vs
theorem SortK.data {kz : List PyData} (hal : AllAlike kz) (hso : Sortable kz) : SortK kz := ⟨fun hd r => dataKind_some hal hd r, fun e hu => SortsAt.data e hal hso hu⟩
theorem SortK.keys {kz : List PyData} (S : SortK kz) {h : Heap} {vs : List Value} (e : EachIs (fun v d => ∃ as, Reads h v d as) vs kz) : EachIs (fun v d => (dataKind h kz).keyOf v = some (keyToks d)) vs kz :=
  (each_mem e).mono fun _ _ ⟨⟨_, r⟩, hd⟩ => S.key hd r

/-- pairs of a number and a thing, alike where the numbers are -/
structure RankK (kz : List PyData) : Prop where
  pair : ∀ d ∈ kz, ∃ (i : Int) (e : PyData), d = .tuple [.int i, e] ∧ e ≠ .none
  same : ∀ (i : Int) (e e' : PyData), .tuple [.int i, e] ∈ kz → .tuple [.int i, e'] ∈ kz → alike e e' = true
theorem reads_pair {h : Heap} {v : Value} {i : Int} {e : PyData} {as : List Addr} (r : Reads h v (.tuple [.int i, e]) as) : ∃ (a : Addr) (o : Obj) (n : Nat) (t : Tok) (u : Value) (bs : List Addr), v = .ref a ∧ h.get? a = some o ∧ o.cls = .type "tuple" ∧ o.data = .seq #[.int i t, u] n ∧ Reads h u e bs := by
  cases r with
  | @tuple a o xs n _ _ h1 h2 h3 h4 =>
    generalize q : xs.toList = l at h4
    cases h4 with
    | cons r1 r2 =>
      cases r1
      cases r2 with
      | cons r3 r4 =>
        cases r4
        have ex := congrArg List.toArray q
        rw [Array.toArray_toList] at ex
        exact ⟨a, o, n, _, _, _, rfl, h1, h2, by rw [h3, ex], r3⟩
theorem SortK.rank {kz : List PyData} (R : RankK kz) : SortK kz := by
  refine ⟨fun {h v d as} hd r => ?_, fun {P w A s vs} e hu => ?_⟩
  · have q : ∃ d, d ∈ kz ∧ ∃ as, Reads h v d as := ⟨d, hd, as, r⟩
    have ek : (dataKind h kz).keyOf v = some (keyToks q.choose) := by
      show (open Classical in if q : ∃ d, d ∈ kz ∧ ∃ as, Reads h v d as then some (keyToks q.choose) else none) = _
      rw [dif_pos q]
    obtain ⟨h1, as', h2⟩ := q.choose_spec
    rw [ek]
    generalize q.choose = d' at *
    obtain ⟨i, x, rfl, _⟩ := R.pair _ hd
    obtain ⟨i', x', rfl, _⟩ := R.pair _ h1
    obtain ⟨a, o, n, t, u, bs, rfl, g1, _, g2, g3⟩ := reads_pair r
    obtain ⟨a', o', n', t', u', bs', ea, k1, _, k2, k3⟩ := reads_pair h2
    cases ea
    rw [g1] at k1
    cases k1
    rw [g2] at k2
    cases k2
    rw [alike_unique _ _ _ _ _ (R.same _ _ _ hd h1) g3 k3]
  · have key : ∀ {h : Heap} {v : Value} {d : PyData} {as : List Addr}, d ∈ kz → Reads h v d as → ∃ k, (dataKind h kz).keyOf v = some k := fun {h v d as} hd r => by
      have q : ∃ d, d ∈ kz ∧ ∃ as, Reads h v d as := ⟨d, hd, as, r⟩
      refine ⟨keyToks q.choose, ?_⟩
      show (open Classical in if q : ∃ d, d ∈ kz ∧ ∃ as, Reads h v d as then some (keyToks q.choose) else none) = _
      rw [dif_pos q]
      rfl
    refine ⟨fun v hv => ?_, tuples' true, ?_, fun h2 E Q hq => ?_⟩
    · obtain ⟨d, hd, as, r⟩ := e.left v hv
      exact key hd r
    · intro E x y a b Q ha hb hq
      obtain ⟨d, as, hd, ra, rfl⟩ := dataKind_inv ha
      obtain ⟨d', as', hd', rb, rfl⟩ := dataKind_inv hb
      have hroom : A.units + min d.depth d'.depth < cLine := Nat.lt_of_le_of_lt (Nat.add_le_add_left (Nat.min_le_left _ _) _) (hu d hd)
      obtain ⟨i, x1, rfl, n1⟩ := R.pair _ hd
      obtain ⟨j, x2, rfl, n2⟩ := R.pair _ hd'
      have hq' : Q (dataLt (.tuple [.int i, x1]) (.tuple [.int j, x2])) s := hq
      rw [dataLt_tuple] at hq'
      cases ra with
      | @tuple l o xs n _ _ h1 h2 h3 h4 =>
        cases rb with
        | @tuple l' o' xs' n' _ _ k1 k2 k3 k4 =>
          have e1 : xs.size = 2 := by simpa using SeqAt.ReadsAll.length _ _ _ h4
          have e2 : xs'.size = 2 := by simpa using SeqAt.ReadsAll.length _ _ _ k4
          refine kat_lt h1 h3 k1 k3 ?_
          generalize q1 : xs.toList = l1 at h4
          generalize q2 : xs'.toList = l2 at k4
          cases h4 with
          | cons r1 r2 =>
            cases k4 with
            | cons p1 p2 =>
              rw [List.zip_cons_cons]
              have hr2 : A.units + min (PyData.depthAll [.int i, x1]) (PyData.depthAll [.int j, x2]) < cLine := by have q := SeqAt.room_in hroom; omega
              have lij : alike (.int i) (.int j) = true := by simp [alike]
              refine kat_cons (eqAt_alike (.int i) (.int j) A s _ _ _ _ r1 p1 lij (SeqAt.room_head hr2) P w _ _ ?_)
              cases hx : PyData.eqv (.int i) (.int j) with
              | true =>
                rw [dataLt_all_yes lij hx] at hq'
                have eij : i = j := by simpa [PyData.eqv] using hx
                subst eij
                exact kat_yes (katLex_alike [x1] [x2] 1 _ _ _ _ r2 p2 (by simp [alikeAll, R.same i x1 x2 hd hd']) (SeqAt.room_tail hr2) (fun _ z => absurd z (by decide)) (by rw [e1, e2]; rfl) hq')
              | false =>
                rw [dataLt_all_no lij hx] at hq'
                exact kat_no (oneLt_alike (fun _ t z => by cases z) r1 p1 lij (by simp) (SeqAt.room_head hr2) hq')
    · obtain ⟨fs, t1, t2, t3⟩ := each_katTups e fun d hd => by
        obtain ⟨i, x, rfl, _⟩ := R.pair _ hd
        exact ⟨_, _, rfl⟩
      refine kat_kind (T := dataType (.int 0)) t1 (by omega) (fun f hf => ?_) (by rfl) hq
      obtain ⟨x, r, as, m1, m2⟩ := t3 f hf
      obtain ⟨i, x', ex, _⟩ := R.pair _ m1
      cases ex
      exact looks_reads (d := .int i) m2
end Dat

set_option Elab.async false
set_option linter.all false
set_option maxRecDepth 100000
set_option maxHeartbeats 4000000
/-! sorted(xs, key=f): f any value whose calls keep the layer's invariant and hand back data that can be ordered. -/
namespace Dat
open PySem PySem.Spec PyProof.Rows L2 PySem.W

/-- what a call of f does, two builtins deep, by values; p0: pins that are known of f -/
def KeyR (X : Cx) (p0 : List (Addr × Obj)) (f : Value) (r : V → Hp → VK → Prop) : Prop :=
  ∀ (pins : List (Addr × Obj)) (s : Shared) (σ : L2.St) (H : Hp) (x : V) (v : Value) (Q : VK), Inv X (p0 ++ pins) σ H s → RelV x v → r x H Q →
    wpAny (model X.prog X.w) X.A.in1.in1 (call f [v]) (EP X (p0 ++ pins) σ Q) (fun _ _ => False) s

theorem vals_each {R : V → Value → Prop} : ∀ {xs : List V} {us : List Value}, Paired R xs us → EachIs (fun u x => R x u) us xs
  | _, _, .nil => .nil
  | _, _, .cons r t => .cons r (vals_each t)
theorem each_vals : ∀ {us : List Value} {ps : List (V × PyData)}, EachIs (fun u p => RelV p.1 u) us ps → Vals (ps.map Prod.fst) us
  | _, _, .nil => .nil
  | _, _, .cons r t => .cons r (each_vals t)
theorem each_zip {xs : List V} : ∀ {us : List Value} {kz : List PyData}, Vals xs us → kz.length = xs.length → EachIs (fun u (p : V × PyData) => RelV p.1 u) us (xs.zip kz) := by
  induction xs with
  | nil =>
    intro us kz r _
    cases r
    exact .nil
  | cons x xs ih =>
    intro us kz r hl
    cases r with
    | cons r t =>
      cases kz with
      | nil => cases hl
      | cons k kz => exact .cons r (ih t (by simpa using hl))
theorem reads_each {X : Cx} {pins : List (Addr × Obj)} {σ : L2.St} {H : Hp} {s : Shared} (I : Inv X pins σ H s) : ∀ {ds : List PyData} {vs : List V} {us : List Value}, DpAll X.K H vs ds → Vals vs us →
    EachIs (fun u d => ∃ as, Reads s.heap u d as) us ds
  | [], _, _, h, r => by
    cases h
    cases r
    exact .nil
  | d :: ds, _, _, h, r => by
    cases h with
    | cons h1 h2 =>
      cases r with
      | cons r1 r2 => exact .cons (Dp.reads I d _ _ h1 r1) (reads_each I h2 r2)
/-- the list that sorted gives -/
def keyed (xs : List V) (kz : List PyData) : List V := ((xs.zip kz).mergeSort (dataLe false Prod.snd)).map Prod.fst

section
variable {X : Cx} {p0 pins : List (Addr × Obj)} {σ : L2.St} {H : Hp} {s : Shared} {a : Addr} {xs : List V} {kz : List PyData} {f : Value} {r : V → Hp → VK → Prop} {Q : VK}

/-- one pin more for an untracked new list -/
theorem pin_list {P1 : List (Addr × Obj)} {b : Addr} {items : Array Value} {n : Nat} (I : Inv X P1 σ H s) (hb : s.heap.get? b = some (seqObj "list" items n)) (hn : H b = none) (hL : b ≠ X.env.locals) (hf : b ∉ X.fs) :
    Inv X (P1 ++ [(b, seqObj "list" items n)]) σ H s := by
  refine I.pins_of ?_
  intro p hp
  rcases List.mem_append.mp hp with q | q
  · exact I.pin p (List.mem_append_right _ q)
  · rw [List.mem_singleton.mp q]
    exact ⟨hb, hn, hL, hf, fun v z => by cases z⟩
theorem pin_less {P1 P2 : List (Addr × Obj)} (I : Inv X (P1 ++ P2) σ H s) : Inv X P1 σ H s :=
  I.pins_of fun p hp => I.pin p (List.mem_append_right _ (List.mem_append_left _ hp))

theorem sorted_key (I : Inv X (p0 ++ pins) σ H s) (hc : X.calm = true) (hu : X.A.units + 64 < cLine) (hf : KeyR X p0 f r)
    (ht : ∀ a', Builtin.«list.sort» ⟨[.ref a'], [(Str.ofString "key", f)]⟩ = ksk_tree a' f false)
    (hs : SqL X.K H a xs) (hk : kz.length = xs.length) (hso : SortK kz) (hd : ∀ d ∈ kz, d.depth ≤ 40)
    (key : ∀ (i : Nat) (x : V) (k : PyData), xs[i]? = some x → kz[i]? = some k → ∀ H1, Same H H1 → r x H1 fun y H2 => Same H1 H2 ∧ Dp X.K H2 y k)
    (q : ∀ (D : Addr) (H' : Hp), Same H H' → H D = none → H' D = some (.lst (keyed xs kz)) → Q (.ref D) H') :
    wpAny (model X.prog X.w) X.A (call (.builtin "sorted") [.ref a] [(Str.ofString "key", f)]) (EP X (p0 ++ pins) σ Q) X.xe s := by
  obtain ⟨its, rv, hl, hz⟩ := I.list hs
  have lenI : its.length = xs.length := rv.length.symm
  refine sorted_of_sort hl.isList (by omega) (ksk_s1 _ _) (fun _ => ksk_l1 _ _) fun E' => ?_
  rw [ht]
  -- the copy, emptied; the items held; the keys' list
  have hA := copyHeap_at s.heap its
  have lt0 : s.heap.objs.size + 1 < (copyHeap s.heap its).objs.size := Heap.lt_size hA
  have sb := Heap.SameBut.update (copyHeap s.heap its) (s.heap.objs.size + 1) (Obj.mapSeq fun _ => (#[] : Array Value))
  obtain ⟨e1, hA1⟩ : ∃ e1, ((copyHeap s.heap its).update (s.heap.objs.size + 1) (Obj.mapSeq fun _ => (#[] : Array Value))).get? (s.heap.objs.size + 1) = some (seqObj "list" #[] e1) :=
    ⟨_, get?_update_seq hA fun _ => #[]⟩
  unfold ksk_tree
  refine wpAny_bind (listItems_at hA rfl (wpAny_bind (listUpdate_at hA rfl ?_ (by rw [List.size_toArray]; omega) (Nat.zero_le _))))
  refine wpAny_bind (seqEpoch_at hA1 rfl (wpAny_bind (wpAny_newTuple ?_ (by show its.length ≤ _; omega))))
  refine wpAny_bind (wpAny_newList (wpAny_holding ?_) (Nat.zero_le _))
  generalize hg : (copyHeap s.heap its).update (s.heap.objs.size + 1) (Obj.mapSeq fun _ => (#[] : Array Value)) = g at *
  have hKS : (g.push (seqObj "tuple" its.toArray 0)).objs.size = g.objs.size + 1 := by rw [size_push']
  have gsz : (copyHeap s.heap its).objs.size = g.objs.size := by rw [← hg, Heap.size_update]
  have old : ∀ b u, s.heap.get? b = some u → ((g.push (seqObj "tuple" its.toArray 0)).push (seqObj "list" #[] 0)).get? b = some u := fun b u e => by
    have nb : b ≠ s.heap.objs.size + 1 := Nat.ne_of_lt (Nat.lt_succ_of_lt (Heap.lt_size e))
    exact Heap.get?_push_of_some _ (Heap.get?_push_of_some _ ((sb.2 b nb).trans (copyHeap_old e)))
  generalize hA' : s.heap.objs.size + 1 = A' at *
  generalize hS' : (g.push (seqObj "tuple" its.toArray 0)).objs.size = S' at *
  have geA : s.heap.objs.size ≤ A' := by omega
  have geS : s.heap.objs.size ≤ S' := by omega
  have neAS : S' ≠ A' := by omega
  have gA : ((g.push (seqObj "tuple" its.toArray 0)).push (seqObj "list" #[] 0)).get? A' = some (seqObj "list" #[] e1) := Heap.get?_push_of_some _ (Heap.get?_push_of_some _ hA1)
  have gS : ((g.push (seqObj "tuple" its.toArray 0)).push (seqObj "list" #[] 0)).get? S' = some (seqObj "list" #[] 0) := by
    rw [← hS']
    exact Heap.get?_push_size _ rfl
  have nL : ∀ b, s.heap.objs.size ≤ b → b ≠ X.env.locals := fun b hb z => absurd I.lt (by rw [← z]; exact Nat.not_lt_of_le hb)
  have hp0 : ∀ b, s.heap.objs.size ≤ b → ∀ p ∈ X.pn ++ (p0 ++ pins), p.1 ≠ b := fun b hb p hp z => by
    have e := (I.pin p hp).1
    rw [z] at e
    exact absurd (Heap.lt_size e) (Nat.not_lt_of_le hb)
  -- the invariant over the new heap
  have I0 : Inv X (p0 ++ (pins ++ [(S', seqObj "list" #[] 0), (A', seqObj "list" #[] e1)])) σ H { s with heap := (g.push (seqObj "tuple" its.toArray 0)).push (seqObj "list" #[] 0) } := by
    have J := I.kept (t' := s.toks) old
    refine J.pins_of fun p hp => ?_
    rw [← List.append_assoc] at hp
    rcases List.mem_append.mp hp with z | z
    · exact J.pin p (List.mem_append_right _ z)
    · rcases List.mem_cons.mp z with z | z
      · rw [z]
        exact ⟨gS, I.hok.fresh geS, nL _ geS, I.nofs geS, fun v z => by cases z⟩
      · rw [List.mem_singleton.mp z]
        exact ⟨gA, I.hok.fresh geA, nL _ geA, I.nofs geA, fun v z => by cases z⟩
  have sz0 : X.s_0.heap.objs.size ≤ s.heap.objs.size := I.sz
  unfold ksk_rest
  refine wpAny_bind (wpAny_rule ?_)
  rw [← Array.forIn_toList]
  simp only [List.toList_toArray]
  refine wpAny_bind (ksk_fold (fun i s' => ∃ (kA : Array Value) (e : Nat) (H1 : Hp) (ks : List V), Inv X (p0 ++ (pins ++ [(S', seqObj "list" kA e), (A', seqObj "list" #[] e1)])) σ H1 s' ∧ Same H H1 ∧
    Vals ks kA.toList ∧ DpAll X.K H1 ks (kz.take i) ∧ s.heap.objs.size ≤ s'.heap.objs.size) its 0 _ ⟨#[], 0, H, [], I0, Same.refl H, .nil, by rw [List.take_zero]; exact .nil, ?_⟩ ?step ?done)
  case step =>
    rintro j x s' hx ⟨kA, e, H1, ks, I1, sm, kv, kd, hsz⟩
    simp only [Nat.zero_add] at kd ⊢
    have hj : j < its.length := (List.getElem?_eq_some_iff.mp hx).1
    have hxj : xs[j]? = some (xs[j]'(by omega)) := List.getElem?_eq_getElem _
    have hkj : kz[j]? = some (kz[j]'(by omega)) := List.getElem?_eq_getElem _
    obtain ⟨u0, hu0, rx⟩ := rv.get hxj
    have eu : u0 = x := Option.some.inj (hu0.symm.trans hx)
    subst eu
    have hkA : kA.size ≤ its.length := by
      have l1 : kA.size = ks.length := (Array.length_toList).symm.trans kv.length.symm
      have l2 : ks.length = (kz.take j).length := dpa_len kd
      have l3 : (kz.take j).length ≤ kz.length := List.length_take_le' _ _
      omega
    refine wpAny_bind (wpAny_attempt (wpAny_mono (hf _ s' σ H1 _ u0 _ I1 rx (key j _ _ hxj hkj H1 sm)) ?_ (fun _ _ z => z.elim)))
    rintro u s2 ⟨y, H2, I2, ry, sm2, dy⟩
    have memS : (S', seqObj "list" kA e) ∈ X.pn ++ (p0 ++ (pins ++ [(S', seqObj "list" kA e), (A', seqObj "list" #[] e1)])) := by simp
    have memA : (A', seqObj "list" #[] e1) ∈ X.pn ++ (p0 ++ (pins ++ [(S', seqObj "list" kA e), (A', seqObj "list" #[] e1)])) := by simp
    obtain ⟨atS, freeS, nLS, nfS, _⟩ := I2.pin _ memS
    obtain ⟨atA, freeA, nLA, nfA, _⟩ := I2.pin _ memA
    have sb2 := Heap.SameBut.update s2.heap S' (Obj.mapSeq (·.push u))
    obtain ⟨c2, hc2⟩ : ∃ c2, (s2.heap.update S' (Obj.mapSeq (·.push u))).get? S' = some (seqObj "list" (kA.push u) c2) := ⟨_, get?_update_seq atS (·.push u)⟩
    refine wpAny_bind (listUpdate_at atS rfl ?_ (by omega) (by rw [Array.size_push]; omega))
    have J1 : Inv X (p0 ++ pins) σ H2 s2 := I2.pins_of fun p hp => I2.pin p (by
      rcases List.mem_append.mp hp with z | z
      · exact List.mem_append_right _ (List.mem_append_left _ z)
      · exact List.mem_append_right _ (List.mem_append_right _ (List.mem_append_left _ z)))
    have ncell : ∀ (x : Str) (c : Addr), X.env.cells.lookup x = some c → c ≠ S' := fun x c hc z => by
      obtain ⟨v, o, ho, hdd⟩ := I2.cell x c hc
      rw [z, atS] at ho
      cases ho
      cases hdd
    have J2 := J1.turned (h' := s2.heap.update S' (Obj.mapSeq (·.push u))) (t' := s2.toks) (it := S') (fun b o hb ho => (sb2.2 b hb).trans ho) freeS nLS (Or.inr (Nat.le_trans sz0 geS)) ncell (hp0 S' geS)
    refine wpAny_pure ⟨rfl, kA.push u, c2, H2, ks ++ [y], ?_, sm.trans sm2, ?_, ?_, ?_⟩
    · refine J2.pins_of fun p hp => ?_
      rw [← List.append_assoc] at hp
      rcases List.mem_append.mp hp with z | z
      · exact J2.pin p (List.mem_append_right _ z)
      · rcases List.mem_cons.mp z with z | z
        · rw [z]
          exact ⟨hc2, freeS, nLS, nfS, fun v z => by cases z⟩
        · rw [List.mem_singleton.mp z]
          exact ⟨(sb2.2 A' neAS.symm).trans atA, freeA, nLA, nfA, fun v z => by cases z⟩
    · rw [Array.toList_push]
      exact kv.append (.cons ry .nil)
    · rw [List.take_add_one, hkj]
      exact dpa_app (kd.on sm2) (DpAll.one dy)
    · show s.heap.objs.size ≤ (s2.heap.update S' (Obj.mapSeq (·.push u))).objs.size
      rw [Heap.size_update]
      have l1 := Heap.lt_size atS
      exact Nat.le_trans geS (Nat.le_of_lt l1)
  case done =>
    rintro s' ⟨kA, e, H1, ks, I1, sm, kv, kd, hsz⟩
    have ek : kz.take (0 + its.length) = kz := List.take_of_length_le (by omega)
    rw [ek] at kd
    have memS : (S', seqObj "list" kA e) ∈ X.pn ++ (p0 ++ (pins ++ [(S', seqObj "list" kA e), (A', seqObj "list" #[] e1)])) := by simp
    have memA : (A', seqObj "list" #[] e1) ∈ X.pn ++ (p0 ++ (pins ++ [(S', seqObj "list" kA e), (A', seqObj "list" #[] e1)])) := by simp
    obtain ⟨atS, freeS, nLS, nfS, _⟩ := I1.pin _ memS
    obtain ⟨atA, freeA, nLA, nfA, _⟩ := I1.pin _ memA
    have hkA : kA.size = its.length := by
      have l1 : kA.size = ks.length := (Array.length_toList).symm.trans kv.length.symm
      have l2 : ks.length = kz.length := dpa_len kd
      omega
    obtain ⟨m, F⟩ := I1.fr
    have b0 : ∀ b, s.heap.objs.size ≤ b → X.base.get? b = none := fun b hb => Heap.get?_none_of_le (Nat.le_trans I.ok.bsz (Nat.le_trans sz0 hb))
    have N : News X.base X.env.locals s'.heap (((allNews X.base s'.heap X.env.locals).filter fun p => decide (p.1 ≠ S' ∧ p.1 ≠ A')) ++ [(S', seqObj "list" kA e), (A', seqObj "list" #[] e1)]) := fun p hp => by
      rcases List.mem_append.mp hp with z | z
      · exact news_all p (List.mem_filter.mp z).1
      · rcases List.mem_cons.mp z with z | z
        · rw [z]
          exact ⟨atS, nLS, b0 _ geS⟩
        · rw [List.mem_singleton.mp z]
          exact ⟨atA, nLA, b0 _ geA⟩
    have hnS : ∀ p ∈ (allNews X.base s'.heap X.env.locals).filter (fun p => decide (p.1 ≠ S' ∧ p.1 ≠ A')), p.1 ≠ S' := fun p hp => (of_decide_eq_true (List.mem_filter.mp hp).2).1
    have hnA : ∀ p ∈ (allNews X.base s'.heap X.env.locals).filter (fun p => decide (p.1 ≠ S' ∧ p.1 ≠ A')), p.1 ≠ A' := fun p hp => (of_decide_eq_true (List.mem_filter.mp hp).2).2
    have er := reads_each I1 kd kv
    refine wpAny_bind (listItems_at atS rfl ?_)
    refine key_end (κ := dataKind s'.heap kz) (vs := its) F N neAS hnS hnA (hso.srt er fun d hd' => ?_) hkA (by omega) fun h3 tk3 c F3 N3 => ⟨rfl, ?_⟩
    · have := hd d hd'
      show X.A.units + 1 + 1 + d.depth < cLine
      omega
    have zk : (xs.zip kz).map Prod.snd = kz := List.map_snd_zip (by omega)
    have eo : EachIs (fun (u : Value) (p : V × PyData) => RelV p.1 u) (sortVals (dataKind s'.heap kz) false kA.toList its) ((xs.zip kz).mergeSort (dataLe false Prod.snd)) :=
      sortVals_each (κ := dataKind s'.heap kz) (fun p : V × PyData => keyToks p.2) (each_zip rv hk) (each_of_map (R := fun v d => (dataKind s'.heap kz).keyOf v = some (keyToks d)) Prod.snd (by rw [zk]; exact hso.keys er))
    have vo : Vals (keyed xs kz) (sortVals (dataKind s'.heap kz) false kA.toList its) := each_vals eo
    generalize sortVals (dataKind s'.heap kz) false kA.toList its = out at *
    have keep3 : ∀ b o, b ≠ X.env.locals → b ≠ S' → b ≠ A' → s'.heap.get? b = some o → h3.get? b = some o := fun b o n1 n2 n3 ho => by
      cases qb : X.base.get? b with
      | some u =>
        have := I1.bk b u qb
        rw [ho] at this
        cases this
        exact F3.keep b _ qb
      | none =>
        exact (N3 (b, o) (List.mem_cons_of_mem _ (List.mem_filter.mpr ⟨mem_allNews n1 qb ho, decide_eq_true ⟨n2, n3⟩⟩))).1
    have at3 := (N3 (A', seqObj "list" out.toArray c) List.mem_cons_self).1
    have lenK : (keyed xs kz).length ≤ sizeLine := by
      unfold keyed
      rw [List.length_map, List.length_mergeSort, List.length_zip]
      omega
    have J1 : Inv X (p0 ++ pins) σ H1 s' := I1.pins_of fun p hp => I1.pin p (by
      rcases List.mem_append.mp hp with z | z
      · exact List.mem_append_right _ (List.mem_append_left _ z)
      · exact List.mem_append_right _ (List.mem_append_right _ (List.mem_append_left _ z)))
    have ncell : ∀ (b : Addr) (items : Array Value) (n : Nat), s'.heap.get? b = some (seqObj "list" items n) → ∀ (x : Str) (c : Addr), X.env.cells.lookup x = some c → c ≠ b := fun b items n hb x c hc z => by
      obtain ⟨v, o, ho, hdd⟩ := I1.cell x c hc
      rw [z, hb] at ho
      cases ho
      cases hdd
    have known : ∀ b u, H1 b = some u → b ≠ A' := fun b u e => ne_of_none e freeA
    have up : ∀ b u, H1 b = some u → upd H1 A' (.lst (keyed xs kz)) b = some u := fun b u e => by rw [upd_ne (known b u e)]; exact e
    have fin : Inv X (p0 ++ pins) σ (upd H1 A' (.lst (keyed xs kz))) { s' with heap := h3, gens := s'.gens, drawn := s'.drawn, toks := tk3 } := by
      refine J1.step (ch := [S', A']) ?_ ?_ ?_ ?_ ?_ (fun b ys e => up b _ e) (fun b o u e => up b _ e) (fun b ps e => ⟨#[], by rw [up b _ e]; simp⟩) ?_ ?_ J1.bare
      · intro b hb
        rcases List.mem_cons.mp hb with z | z
        · rw [z]
          exact ⟨Or.inr (Nat.le_trans sz0 geS), nLS, ncell _ _ _ atS, hp0 _ geS⟩
        · rw [List.mem_singleton.mp z]
          exact ⟨Or.inr (Nat.le_trans sz0 geA), nLA, ncell _ _ _ atA, hp0 _ geA⟩
      · intro b o n1 _ n2 e _
        exact keep3 b o n1 (fun z => n2 (by simp [z])) (fun z => n2 (by simp [z])) e
      · intro b o n1 _ n2 e _
        exact ⟨o.slots, keep3 b o n1 (fun z => n2 (by simp [z])) (fun z => n2 (by simp [z])) e⟩
      · intro b o n2 e n
        have nA : b ≠ A' := fun z => n2 (by simp [z])
        rw [upd_ne nA]
        exact n
      · intro b o n2 e
        by_cases hb : b = X.env.locals
        · obtain ⟨ob, _, _, hob, _⟩ := F3.ns
          rw [hb]
          exact ⟨ob, hob⟩
        · exact ⟨o, keep3 b o hb (fun z => n2 (by simp [z])) (fun z => n2 (by simp [z])) e⟩
      · intro m2 hm2
        have em : m2 = m := funext fun x => hm2.agree F.ns x
        rw [em]
        exact F3.ns
      · intro b u e
        by_cases hb : b = A'
        · rw [hb, upd_same] at e
          cases e
          rw [hb]
          exact ⟨lenK, out, c, vo, at3⟩
        · rw [upd_ne hb] at e
          refine (J1.hok b u e).stay (fun d v hd hq => ?_) (fun d hq => up d _ hq) (fun d ys hq => up d _ hq)
          have tr : ∃ w, H1 d = some w := hd.elim (fun z => ⟨u, by rw [z]; exact e⟩) (fun z => ⟨_, z⟩)
          obtain ⟨w, hw⟩ := tr
          refine keep3 d v ?_ ?_ (known d w hw) hq
          · intro z
            rw [z, J1.free] at hw
            cases hw
          · intro z
            rw [z, freeS] at hw
            cases hw
    exact ⟨.ref A', _, fin, rfl, q A' _ (sm.trans (same_new freeA)) (I.hok.fresh geA) upd_same⟩
  show s.heap.objs.size ≤ ((g.push (seqObj "tuple" its.toArray 0)).push (seqObj "list" #[] 0)).objs.size
  exact Nat.le_trans geS (Nat.le_of_lt (Heap.lt_size gS))
end
end Dat

set_option Elab.async false
set_option linter.all false
set_option maxRecDepth 100000
set_option maxHeartbeats 4000000
/-! A lambda with one parameter, as a value; as the key of a sort. -/
namespace Dat
open PySem PySem.Spec PyProof.Rows L2 PySem.W LamX

theorem boot_sorted_ : bootBuiltins "sorted" = some (.builtin "sorted") := by decide +kernel
section
variable {X : Cx}
/-- the call of a lambda with one parameter that captures nothing: by its body, as a def's -/
theorem lam_key {f c' : Addr} {pm ctv : Value} {params : Arguments} {body : Expr} {scope : Scope} {p : Str} {tb : TE} {k : Nat} {clo : List (Str × Addr)} (S : FnScope [p] [p] scope) (gd : Gd X.A) (hr : Room (k + 3) X.A) (hclo : clo = [])
    (hbind : ∀ (u pm cv ctv : Value), bindArgs (kla_fn "<lambda>" (X.env.qual ++ "<lambda>") params body scope clo pm cv ctv) ⟨[u], []⟩ = pure [(p, u)])
    (hbody : ∀ (f : Addr) (cd : Value) (A : Around) (outer : List Env) (s : Shared) (H : Hp) (E : XK), Gd A → Room k (A.deeper (envOfC (X.env.qual ++ "<lambda>") scope s.heap.objs.size f cd)) →
      PE (cxOf CX0 X.prog X.w X.K X.mg X.base [p] (X.env.qual ++ "<lambda>") scope f cd A outer s H E).nox body tb) :
    KeyR X [(f, kla_obj "<lambda>" (X.env.qual ++ "<lambda>") params body scope clo pm c' ctv)] (.ref f) (fun x H Q => H c' = some (CodeO c' (X.env.qual ++ "<lambda>")) ∧ tb [some x] H Q) := by
  intro pins s σ H x v Q I rx h
  obtain ⟨hc, ht⟩ := h
  have of1 := (I.pin (f, kla_obj "<lambda>" (X.env.qual ++ "<lambda>") params body scope clo pm c' ctv) (by simp)).1
  obtain ⟨⟨oc, vs, t, hoc, hdc, hvc⟩, _, _⟩ := I.hok c' _ hc
  have hr2 : Room (k + 1) X.A.in1.in1 := hr.in1.in1
  have e0 := I.env0.in1.in1
  have kinds : ∀ y ∈ [(p, v)], scope.names.lookup y.1 = some .local ∨ (scope.names.lookup y.1 = some .cell ∧ ((cellsFrom (s.heap.objs.size + 1) scope.names []).lookup y.1).isSome = true) := by
    intro y hy
    rw [List.mem_singleton.mp hy]
    rcases S.par p (by simp) with z | z
    · exact Or.inl z
    · exact Or.inr ⟨z, cellsFrom_some _ _ _ (Or.inl z)⟩
  have rc : codeAny (model X.prog X.w) X.A.in1.in1 (.call (.ref f) ⟨[v], []⟩) (CR CX0 X.stack X.prog X.w H s Q E0) s := by
    refine kla_callFunE hr2.depth of1 rfl S.co S.gen rfl ⟨c', oc, vs, t, rfl, hoc, hdc, hvc⟩ ?_
    rw [hbind]
    refine wpAny_pure ?_
    subst hclo
    refine wpAny_newFunctionEnv_cells S.kind kinds fun env he s1 x1 => ?_
    subst he
    refine ⟨I.nolimit.keeps x1.toInCall.keep, ?_⟩
    have J := inv_start (CX := CX0) (cd := .ref c') (f := f) (qual := X.env.qual ++ "<lambda>") (N := [p]) (ps := [p]) (E := E0) (vs := [x]) (us := [v]) S hr2.hd e0 rfl (.cons rx .nil) x1
    refine kla_codeExpr (wpAny_mono ((hbody f (.ref c') X.A.in1.in1 X.stack s H E0 gd (hr2.deeper _)).nox.run [] s1 _ H Q J ht) ?_ fun e s' hq => hq)
    rintro u s' ⟨w', H', J', rw', q⟩
    exact ⟨w', H', J'.os, J'.bare, J'.base, J'.hok, rw', q⟩
  refine wpAny_call (codeAny_mono rc ?_)
  intro r s' hq
  cases r with
  | error e => exact False.elim hq
  | ok fl =>
    cases fl with
    | ret u => exact I.after hq
    | next => exact False.elim hq
    | brk => exact False.elim hq
    | cont => exact False.elim hq

/-- sorted(e, key=lambda p: body) -/
def tSL (X : Cx) (T : List (Addr × Str)) (ta : TA) (tb : TE) : TE := fun σ H Q => ta σ H fun vs H1 => ∃ (a : Addr) (xs : List V) (kz : List PyData), vs = [.ref a] ∧ SqL X.K H1 a xs ∧ kz.length = xs.length ∧ SortK kz ∧
  (∀ d ∈ kz, d.depth ≤ 40) ∧ Tabs T H1 ∧ ∀ H2, ExtN H1 H2 → Tabs T H2 →
    (∀ (i : Nat) (x : V) (k : PyData), xs[i]? = some x → kz[i]? = some k → ∀ H3, Same H2 H3 → tb [some x] H3 fun y H4 => Same H3 H4 ∧ Dp X.K H4 y k) ∧
    ∀ (D : Addr) (H' : Hp), Same H2 H' → H2 D = none → H' D = some (.lst (keyed xs kz)) → Q (.ref D) H'
theorem ExtN.seq {K : PySem.W.Frag} {H H' : Hp} {a : Addr} {xs : List V} (e : ExtN H H') (h : SqL K H a xs) : SqL K H' a xs := by
  rcases h with (h | ⟨o, h⟩) | h
  · exact .inl (.inl (e _ _ h fun ps z => by cases z))
  · exact .inl (.inr ⟨o, e _ _ h fun ps z => by cases z⟩)
  · exact .inr h
theorem pe_sortedLam {T : List (Addr × Str)} {c P : Addr} {params : Arguments} {body e : Expr} {scope : Scope} {lpos pos p1 kpos : Pos} {ta : TA} {tb : TE} {p : Str} {k : Nat}
    (TB : TabB X.base X.mg c P) (hcode : X.env.code = .ref c) (hm : (P, X.env.qual ++ "<lambda>") ∈ T) (hu : ∀ p ∈ T, p.1 = P → p.2 = X.env.qual ++ "<lambda>") (gd : Gd X.A) (hr : Room (k + 3) X.A) (hc : X.calm = true)
    (hg : Gl X "sorted") (ms : X.mg "sorted" = none) (ha : PA X [e] ta) (S : FnScope [p] [p] scope)
    (hbody : ∀ (f : Addr) (cd : Value) (A : Around) (outer : List Env) (s : Shared) (H : Hp) (E : XK), Gd A → Room k (A.deeper (envOfC (X.env.qual ++ "<lambda>") scope s.heap.objs.size f cd)) →
      PE (cxOf CX0 X.prog X.w X.K X.mg X.base [p] (X.env.qual ++ "<lambda>") scope f cd A outer s H E).nox body tb)
    (hclo : cloFrom X.env.cells scope.names [] = [] := by rfl)
    (hdef : defaultsOf params X.env = ([], []) := by rfl)
    (hbind : ∀ (u pm cv ctv : Value), bindArgs (kla_fn "<lambda>" (X.env.qual ++ "<lambda>") params body scope (cloFrom X.env.cells scope.names []) pm cv ctv) ⟨[u], []⟩ = pure [(p, u)] := by intro _ _ _ _; rfl)
    (h1 : backTo pos (starEach [e] X.env) = (false, eval e X.env) :: backTo pos (starEach [] X.env) := by rfl) (h2 : (backTo pos (starEach [e] X.env)).any (·.1) = false := by rfl)
    (h3 : (backToKw pos (keywordEach [⟨some "key", .Lambda params body scope lpos, kpos⟩] X.env)).all (·.1.isSome) = true := by rfl) (h4 : (backToKw pos (keywordEach [⟨some "key", .Lambda params body scope lpos, kpos⟩] X.env)).any (·.1.isNone) = false := by rfl)
    (h5 : (backToKw pos (keywordEach [⟨some "key", .Lambda params body scope lpos, kpos⟩] X.env)).filterMap (·.1) = [Str.ofString "key"] := by rfl) :
    PE X (.Call (.Name "sorted" p1) [e] [⟨some "key", .Lambda params body scope lpos, kpos⟩] pos) (tSL X T ta tb) := by
  refine ⟨fun pins s σ H Q I h => ?_⟩
  refine wpAny_Call_Name_kw (ld_blt I hg ms boot_sorted_ ?_)
  refine PyProof.Rows.callWith_kw (thn (ha.run pos pins s σ H _ I h) ?_) h1 h2 h3 h4
  rintro us s1 ⟨vs, H1, I1, r1, q1⟩
  rw [h5]
  show wpAny _ _ (evalAll ((do let v ← eval (.Lambda params body scope lpos) X.env; standAt pos; pure v) :: [])) _ _ s1
  obtain ⟨a, xs, kz, e1, hS, hk, hso, hd, hT, q⟩ := (show ∃ (a : Addr) (xs : List V) (kz : List PyData), vs = [.ref a] ∧ SqL X.K H1 a xs ∧ kz.length = xs.length ∧ SortK kz ∧ (∀ d ∈ kz, d.depth ≤ 40) ∧ Tabs T H1 ∧ ∀ H2, ExtN H1 H2 → Tabs T H2 →
      (∀ (i : Nat) (x : V) (k : PyData), xs[i]? = some x → kz[i]? = some k → ∀ H3, Same H2 H3 → tb [some x] H3 fun y H4 => Same H3 H4 ∧ Dp X.K H4 y k) ∧
      ∀ (D : Addr) (H' : Hp), Same H2 H' → H2 D = none → H' D = some (.lst (keyed xs kz)) → Q (.ref D) H' from q1)
  subst e1
  obtain rfl := Vals.ref1 r1
  refine wpAny_evalAll_cons (wpAny_bind (lam_make2 I1 TB hcode hm hu hT hdef (fun y hy z => absurd z (S.nofree y hy)) ?_))
  intro f c' pm ctv H2 s2 I2 eN T2 hf hfn hfr hco
  refine wpAny_bind (wpAny_standAt (wpAny_pure (wpAny_evalAll_nil ?_)))
  have nfs : f ∉ X.fs := fun z => by
    rcases I2.ok.stk with e | ⟨e, _⟩
    · exact hfr (by rw [e]; exact z)
    · refine hfr ?_
      rw [e]
      unfold frs
      rw [List.filterMap_cons]
      split
      · exact z
      · exact List.mem_cons_of_mem _ z
  have nL : f ≠ X.env.locals := fun z => by
    obtain ⟨m, ⟨o, es, ep, ho, hdt, _⟩, _⟩ := I2.loc
    rw [← z, hf] at ho
    cases ho
    cases hdt
  have J : Inv X ([(f, kla_obj "<lambda>" (X.env.qual ++ "<lambda>") params body scope (cloFrom X.env.cells scope.names []) pm c' ctv)] ++ pins) σ H2 s2 := by
    refine I2.pins_of fun pr hp => ?_
    rcases List.mem_cons.mp hp with z | z
    · rw [z]
      exact ⟨hf, hfn, nL, nfs, fun v z => by cases z⟩
    · exact I2.pin pr (List.mem_append_right _ z)
  obtain ⟨qk, qe⟩ := q H2 eN T2
  refine wpAny_mono (sorted_key (kz := kz) (xs := xs) (Q := Q) J hc hr.units (lam_key (tb := tb) (k := k) S gd hr hclo hbind hbody) (fun a' => ksk_t1 _ _) (ExtN.seq eN hS) hk hso hd ?_ qe) ?_ (fun _ _ z => z)
  · intro i x kd h6 h7 H3 s3
    exact ⟨s3 _ _ hco, qk i x kd h6 h7 H3 s3⟩
  · rintro u s3 ⟨v, H3, I3, r3, q3⟩
    exact ⟨v, H3, I3.pins_of fun pr hp => I3.pin pr (List.mem_append_right _ (List.mem_append_right _ hp)), r3, q3⟩
end
end Dat

set_option Elab.async false
set_option linter.all false
set_option maxRecDepth 100000
set_option maxHeartbeats 4000000
/-! The layer's rules with the written part as a name of its own: for use within comprehensions. -/
namespace Dat
open PySem PySem.Spec PyProof.Rows L2 LamX
section
variable {X : Cx} (K : PySem.W.Frag)
theorem k_ixL (h : X.K = K := by rfl) : IxR X (rIxL K) := h ▸ ix_list
theorem k_ixT (h : X.K = K := by rfl) : IxR X (rIxT K) := h ▸ ix_tup
theorem k_len (h : X.K = K := by rfl) : CallR X (.builtin "len") (fun xs H Q => ∃ p ys, xs = [.ref p] ∧ (SqL K H p ys ∨ SqT K H p ys) ∧ Q (.int ys.length) H) := h ▸ call_len_seq
theorem k_isi (h : X.K = K := by rfl) : CallR X (.builtin "isinstance") (rIsi K) := h ▸ call_isi
theorem k_repr (gd : Gd X.A) (hu : X.A.units + 64 < cLine) (h : X.K = K := by rfl) : CallR X (.builtin "repr") (rReprD K) := h ▸ call_reprD gd hu
theorem k_eqD (hu : X.A.units + 64 < cLine) (h : X.K = K := by rfl) : OpR X (compareOp .Eq) (rEqD K) := h ▸ op_eqD hu
theorem k_neD (hu : X.A.units + 64 < cLine) (h : X.K = K := by rfl) : OpR X (compareOp .NotEq) (rNeD K) := h ▸ op_neD hu
theorem k_tupleOf (h : X.K = K := by rfl) : CallR X (.type "tuple") (fun xs H Q => ∃ p ys, xs = [.ref p] ∧ ((SqL K H p ys ∧ ∀ l, H l = none → Q (.ref l) (upd H l (.tup ys))) ∨ (SqT K H p ys ∧ Q (.ref p) H))) := h ▸ call_tuple_of
theorem k_listOf (h : X.K = K := by rfl) : CallR X (.type "list") (fun xs H Q => ∃ p ys, xs = [.ref p] ∧ (SqL K H p ys ∨ SqT K H p ys) ∧ ∀ l, H l = none → Q (.ref l) (upd H l (.lst ys))) := h ▸ call_list_of
theorem k_all (hc : X.calm = true := by rfl) (h : X.K = K := by rfl) : CallR X (.builtin "all") (rAll K) := h ▸ cr_all hc
theorem k_any (hc : X.calm = true := by rfl) (h : X.K = K := by rfl) : CallR X (.builtin "any") (rAny K) := h ▸ cr_any hc
theorem k_slL (h : X.K = K := by rfl) : SlR X (rSlL K) := h ▸ sl_list
theorem k_slT (h : X.K = K := by rfl) : SlR X (rSlA K) := h ▸ sl_tupA
theorem k_catT (h : X.K = K := by rfl) : OpR X (binaryOp .Add) (rCatA K) := h ▸ op_catA
theorem k_inSeq (h : X.K = K := by rfl) : OpR X (compareOp .In) (rIn K false) := h ▸ op_in_seq
theorem k_notInSeq (h : X.K = K := by rfl) : OpR X (compareOp .NotIn) (rIn K true) := h ▸ op_notIn_seq
theorem k_piL {tg l : Expr} {tl : TE} (hl : PE X l tl) (h : X.K = K := by rfl) : PI X tg l (iList K tl) := h ▸ pi_list hl
theorem k_piT {tg l : Expr} {tl : TE} (hl : PE X l tl) (h : X.K = K := by rfl) : PI X tg l (iTup K tl) := h ▸ pi_tup hl
theorem k_pgT {es : List Expr} {k : Nat} {t : TGs} {n : Nat} {pos : Pos} (hp : PGs X es t) (hc : X.calm = true := by rfl) (hn : (assignEach es X.env).length = n := by rfl) (hst : (assignEach es X.env).findIdx? (·.1) = none := by rfl) (h : X.K = K := by rfl) :
    PG X (.Tuple es k pos) (gTup K n t) := h ▸ pg_tup hc hp hn hst
variable {o e : Expr} {es : List Expr} {to : TE} {t : TA} {name : Str} {apos cpos : Pos} {T id : String} {r : V → List V → Hp → VK → Prop}
theorem k_bm0 (pa : PlainAttrs T) (slot : Slot T name id) (hty : typeOf (.builtin id) = pure (.type "method_descriptor")) (hm : MtR X id r) (ho : PE X o to)
    (hbase : attributeBase o name X.env (eval o X.env) = eval o X.env := by rfl) (hline : (apos.endLine == cpos.line) = true := by rfl) (h : X.K = K := by rfl) : PE X (.Call (.Attribute o name apos) [] [] cpos) (tBM0 K T r to) :=
  h ▸ pe_bm0 pa slot hty hm ho hbase hline
theorem k_bm (pa : PlainAttrs T) (slot : Slot T name id) (hty : typeOf (.builtin id) = pure (.type "method_descriptor")) (hm : MtR X id r) (ho : PE X o to) (ha : PA X (e :: es) t)
    (hbase : attributeBase o name X.env (eval o X.env) = eval o X.env := by rfl)
    (hfew : ((backTo cpos (starEach (e :: es) X.env)).all (fun x => !x.1) && (backToKw cpos (keywordEach [] X.env)).all (fun x => x.1.isSome)
      && decide ((e :: es).length + ([] : List Keyword).length + (if ([] : List Keyword).isEmpty then 0 else 1) < 30)) = true := by rfl)
    (hline : (apos.endLine == cpos.line) = true := by rfl) (hs : starEach (e :: es) X.env = (false, eval e X.env) :: starEach es X.env := by rfl) (hplain : (backTo cpos (starEach es X.env)).any (·.1) = false := by rfl) (h : X.K = K := by rfl) :
    PE X (.Call (.Attribute o name apos) (e :: es) [] cpos) (tBM K T r to t) := h ▸ pe_bm pa slot hty hm ho ha hbase hfew hline hs hplain
end
end Dat

set_option Elab.async false
set_option linter.all false
set_option maxRecDepth 100000
set_option maxHeartbeats 4000000
/-! More rules; small data, and which are alike. -/
namespace Dat
open PySem PySem.Spec PyProof.Rows L2 LamX PySem.W RZ
section
variable {X : Cx} (K : PySem.W.Frag)
theorem k_piZ {e e2 : Expr} {ta : TA} {p pos tpos : Pos} {elts : List Expr} {kk : Nat} (hg : Gl X "zip") (hm : X.mg "zip" = none) (ha : PA X [e, e2] ta)
    (hs : starEach [e, e2] X.env = (false, eval e X.env) :: starEach [e2] X.env := by rfl) (hpl : (backTo pos (starEach [e2] X.env)).any (·.1) = false := by rfl) (h : X.K = K := by rfl) :
    PI X (.Tuple elts kk tpos) (.Call (.Name "zip" p) [e, e2] [] pos) (iZipA K ta) := h ▸ pi_zipA hg hm ha hs hpl
end
/-- a text several times over -/
def strRep (x : Str) (n : Nat) : Str := ⟨(List.replicate n x.cps).foldl (· ++ ·) #[]⟩
theorem op_mul_str {X : Cx} : OpR X (binaryOp .Mult) (fun x y H Q => ∃ (a : Str) (n : Int), x = .str a ∧ y = .int n ∧ 2 ≤ n ∧ n ≤ 1000 ∧ 0 < a.length ∧ a.length ≤ 1000 ∧ Q (.str (strRep a n.toNat)) H) := by
  intro pins s σ H x y v u Q I rx ry h
  obtain ⟨a, n, rfl, rfl, h1, h2, h3, h4, q⟩ := h
  obtain ⟨t, rfl⟩ := rx
  obtain ⟨t', rfl⟩ := ry
  have e1 : ¬ n < 1 := by omega
  have e2 : (n == 1 || a.length == 0) = false := by
    have z1 : (n == 1) = false := by simp; omega
    have z2 : (a.length == 0) = false := by simp; omega
    rw [z1, z2]
    rfl
  refine PySem.P.mul_str (by
      have z1 : ¬ n < -(2 ^ 63 : Int) := by omega
      have z2 : ¬ n ≥ 2 ^ 63 := by omega
      rw [decide_eq_false z1, decide_eq_false z2]; rfl) (fun _ _ => ?_) (fun _ _ => ?_) ?_
  · have hq : (1000 : Int) ≤ (2 ^ 63 - 1) / n := by
      rw [Int.le_ediv_iff_mul_le (by omega)]
      omega
    omega
  · have : a.length * n.toNat ≤ 1000 * 1000 := Nat.mul_le_mul h4 (by omega)
    have sl : sizeLine = 16777216 := rfl
    exact decide_eq_false (by omega)
  · rw [if_neg e1, e2]
    refine ⟨PySem.fits_reps ?_, ⟨.str (strRep a n.toNat), H, I.tok _, ⟨s.toks, rfl⟩, q⟩⟩
    have : a.length * n.toNat ≤ 1000 * 1000 := Nat.mul_le_mul h4 (by omega)
    have sl : sizeLine = 16777216 := rfl
    exact decide_eq_false (by omega)

theorem lc_zipT {K : PySem.W.Frag} {a b : Addr} {xs ys : List V} {g : TG} {tt : TT} {te : TE} {vs : List Nat} {σ : L2.St} {H1 : Hp} {D : Addr} {Qd : Hp → Prop} (hl : xs.length = ys.length) (Pv : Nat → Hp → Prop) (h0 : Pv 0 (upd H1 D (.lst [])))
    (hq : ∀ i H, Pv i H → SqT K H a xs ∧ SqT K H b ys)
    (hs : ∀ i x y T H, xs[i]? = some x → ys[i]? = some y → Pv i H → H T = none → g (.ref T) (wipe σ vs) (upd H T (.tup [x, y])) fun σ2 H2 => wipe σ2 vs = wipe σ vs ∧ tt σ2 H2 fun b H3 =>
      if b = true then te σ2 H3 fun y H4 => ∃ acc, H4 D = some (.lst acc) ∧ acc.length < sizeLine ∧ Pv (i + 1) (upd H4 D (.lst (acc ++ [y]))) else Pv (i + 1) H3) (hd : ∀ H, Pv xs.length H → Qd H) :
    ∃ W : Nat → Nat → Hp → Prop, (∃ m, W 0 m (upd H1 D (.lst []))) ∧ ∀ i m H, W i m H →
      ((ItzT K a b).stop i H ∧ Qd H) ∨ ((ItzT K a b).go i H ∧ ∃ Nx : Hp → Prop, (∀ H', Nx H' → ∃ m', m' < m ∧ W (i + 1) m' H') ∧ ∀ x H', (ItzT K a b).yld i H x H' → g x (wipe σ vs) H' fun σ2 H2 => wipe σ2 vs = wipe σ vs ∧ tt σ2 H2 fun b H3 =>
        if b = true then te σ2 H3 fun y H4 => ∃ acc, H4 D = some (.lst acc) ∧ acc.length < sizeLine ∧ Nx (upd H4 D (.lst (acc ++ [y]))) else Nx H3) := by
  refine ⟨fun i m H => m = xs.length - i ∧ i ≤ xs.length ∧ Pv i H, ⟨xs.length, by simp, Nat.zero_le _, h0⟩, ?_⟩
  rintro i m H ⟨rfl, hi, p⟩
  obtain ⟨qx, qy⟩ := hq i H p
  by_cases hlt : i < xs.length
  · have hx : xs[i]? = some xs[i] := List.getElem?_eq_getElem hlt
    have hlt2 : i < ys.length := by omega
    have hy : ys[i]? = some ys[i] := List.getElem?_eq_getElem hlt2
    refine .inr ⟨⟨xs, ys, _, _, qx, qy, hx, hy⟩, Pv (i + 1), fun H' p' => ⟨xs.length - (i + 1), by omega, rfl, hlt, p'⟩, fun v H' y => ?_⟩
    obtain ⟨T, x', y', rfl, hT, rfl, f1, f2⟩ := y
    exact hs i x' y' T H (f1 xs qx) (f2 ys qy) p hT
  · have e : i = xs.length := by omega
    subst e
    exact .inl ⟨⟨xs, ys, qx, qy, Or.inl (Nat.le_refl _)⟩, hd H p⟩

/-! ### small data -/
def isB : PyData → Bool
  | .bool _ => true
  | _ => false
def isT : PyData → Bool
  | .tuple _ => true
  | _ => false
def isS : PyData → Bool
  | .str _ => true
  | _ => false
def isI : PyData → Bool
  | .bool _ => true
  | .int _ => true
  | _ => false
mutual
def okD : PyData → Bool
  | .none => false
  | .bool _ => true
  | .int i => decide (i.natAbs < 2 ^ 140)
  | .str x => PyData.strOk x && decide (x.length ≤ 16)
  | .list _ => false
  | .tuple xs => decide (xs.length ≤ 100) && okDs xs
  | .dict _ => false
def okDs : List PyData → Bool
  | [] => true
  | x :: xs => okD x && okDs xs
end
theorem okDs_all {xs : List PyData} : okDs xs = true ↔ ∀ x ∈ xs, okD x = true := by
  induction xs with
  | nil => simp [okDs]
  | cons x xs ih => simp [okDs, ih]
theorem okD_tup {xs : List PyData} (h : okD (.tuple xs) = true) : xs.length ≤ 100 ∧ ∀ x ∈ xs, okD x = true := by
  have h' : (decide (xs.length ≤ 100) && okDs xs) = true := by simpa [okD] using h
  rw [Bool.and_eq_true, decide_eq_true_eq] at h'
  exact ⟨h'.1, okDs_all.mp h'.2⟩
mutual
theorem lay_ok : ∀ d : PyData, okD d = true → d.canLay0 = true
  | .none, h => by simp [okD] at h
  | .bool _, _ => by simp [PyData.canLay0]
  | .int _, _ => by simp [PyData.canLay0]
  | .str x, h => by
    have h' : (PyData.strOk x && decide (x.length ≤ 16)) = true := by simpa [okD] using h
    rw [Bool.and_eq_true] at h'
    simpa [PyData.canLay0] using h'.1
  | .list _, h => by simp [okD] at h
  | .dict _, h => by simp [okD] at h
  | .tuple xs, h => by
    have h' : (decide (xs.length ≤ 100) && okDs xs) = true := by simpa [okD] using h
    rw [Bool.and_eq_true] at h'
    simpa [PyData.canLay0] using lays_ok xs h'.2
theorem lays_ok : ∀ ds : List PyData, okDs ds = true → PyData.canLayAll0 ds = true
  | [], _ => by simp [PyData.canLayAll0]
  | d :: ds, h => by
    have h' : okD d = true ∧ okDs ds = true := by simpa [okDs] using h
    simp [PyData.canLayAll0, lay_ok d h'.1, lays_ok ds h'.2]
end
mutual
theorem tup_ok : ∀ d : PyData, okD d = true → tupD d = true
  | .none, h => by simp [okD] at h
  | .bool _, _ => by simp [tupD]
  | .int _, _ => by simp [tupD]
  | .str x, h => by simp [tupD]
  | .list _, h => by simp [okD] at h
  | .dict _, h => by simp [okD] at h
  | .tuple xs, h => by
    have h' : (decide (xs.length ≤ 100) && okDs xs) = true := by simpa [okD] using h
    rw [Bool.and_eq_true] at h'
    simpa [tupD] using tups_ok xs h'.2
theorem tups_ok : ∀ ds : List PyData, okDs ds = true → tupDs ds = true
  | [], _ => by simp [tupDs]
  | d :: ds, h => by
    have h' : okD d = true ∧ okDs ds = true := by simpa [okDs] using h
    simp [tupDs, tup_ok d h'.1, tups_ok ds h'.2]
end
theorem shaped_ok {d : PyData} (h : okD d = true) (hd : d.depth ≤ 64) : SeqAt.shaped d = true := by
  unfold SeqAt.shaped
  rw [lay_ok d h, decide_eq_true hd]
  rfl
theorem depth_tup {xs : List PyData} {n : Nat} (h : (PyData.tuple xs).depth ≤ n + 1) : ∀ x ∈ xs, x.depth ≤ n := by
  have h' : PyData.depthAll xs ≤ n := by simpa [PyData.depth] using h
  clear h
  induction xs with
  | nil => intro x hx; cases hx
  | cons y ys ih =>
    simp only [PyData.depthAll] at h'
    intro x hx
    rcases List.mem_cons.mp hx with z | z
    · rw [z]; omega
    · exact ih (by omega) x z
theorem depth_tup0 {xs : List PyData} : ¬ (PyData.tuple xs).depth ≤ 0 := by simp [PyData.depth]

/-! ### alike -/
mutual
def lkD : PyData → PyData → Bool
  | .tuple xs, e => match e with
    | .tuple ys => lkAll xs ys
    | _ => false
  | d, e => (isB d == isB e) && PyData.eqv d e
def lkAll : List PyData → List PyData → Bool
  | [], [] => true
  | x :: xs, y :: ys => lkD x y && lkAll xs ys
  | [], _ :: _ => false
  | _ :: _, [] => false
end
theorem lk_tup (xs ys : List PyData) : lkD (.tuple xs) (.tuple ys) = lkAll xs ys := by simp only [lkD]
theorem lk_not {d e : PyData} (hd : okD d = true) (h : (isT d && isT e) = false) : lkD d e = ((isB d == isB e) && PyData.eqv d e) := by
  cases d with
  | tuple xs =>
    cases e with
    | tuple ys => simp [isT] at h
    | _ => simp [lkD, isB, PyData.eqv]
  | _ => simp only [lkD]
theorem lk_kinds {d e : PyData} (hd : okD d = true) (he : okD e = true) (h : (isT d && isT e) = false) :
    lkD d e = (((isT d == isT e) && ((isB d == isB e) && (isS d == isS e))) && PyData.eqv d e) := by
  rw [lk_not hd h]
  cases d <;> cases e <;> simp_all [isB, isT, isS, PyData.eqv, okD]
theorem lkAll_len : ∀ {xs ys : List PyData}, xs.length ≠ ys.length → lkAll xs ys = false
  | [], [], h => absurd rfl h
  | [], _ :: _, _ => by simp only [lkAll]
  | _ :: _, [], _ => by simp only [lkAll]
  | x :: xs, y :: ys, h => by
    simp only [lkAll, lkAll_len (xs := xs) (ys := ys) (by simpa using h), Bool.and_false]
/-- pair by pair, up to i -/
def lkB (xs ys : List PyData) (i : Nat) : List Bool := ((xs.zip ys).take i).map fun p => lkD p.1 p.2
theorem lkAll_zip : ∀ {xs ys : List PyData}, xs.length = ys.length → lkAll xs ys = ((xs.zip ys).map fun p => lkD p.1 p.2).all id
  | [], [], _ => by simp only [lkAll]; rfl
  | x :: xs, y :: ys, h => by
    simp only [lkAll, List.zip_cons_cons, List.map_cons, List.all_cons, id]
    rw [lkAll_zip (by simpa using h)]
  | [], _ :: _, h => by simp at h
  | _ :: _, [], h => by simp at h

theorem lkB_le (xs ys : List PyData) (i : Nat) : (lkB xs ys i).length ≤ xs.length := by
  unfold lkB
  rw [List.length_map, List.length_take, List.length_zip]
  omega
theorem lkB_succ {xs ys : List PyData} {i : Nat} {d e : PyData} (h1 : xs[i]? = some d) (h2 : ys[i]? = some e) : lkB xs ys (i + 1) = lkB xs ys i ++ [lkD d e] := by
  unfold lkB
  have : (xs.zip ys)[i]? = some (d, e) := List.getElem?_zip_eq_some.mpr ⟨h1, h2⟩
  rw [List.take_add_one, this, List.map_append]
  rfl
theorem lkB_all {xs ys : List PyData} (h : xs.length = ys.length) : (lkB xs ys xs.length).all id = lkAll xs ys := by
  rw [lkAll_zip h]
  unfold lkB
  rw [List.take_of_length_le (by rw [List.length_zip]; omega)]
/-- the places that aren't alike, up to i -/
def unl (xs ys : List PyData) : Nat → List Int
  | 0 => []
  | i + 1 => unl xs ys i ++ (if lkD (xs.getD i .none) (ys.getD i .none) = true then [] else [(i : Int)])
theorem unl_succ (xs ys : List PyData) (i : Nat) : unl xs ys (i + 1) = unl xs ys i ++ (if lkD (xs.getD i .none) (ys.getD i .none) = true then [] else [(i : Int)]) := rfl
theorem unl_le (xs ys : List PyData) : ∀ i, (unl xs ys i).length ≤ i
  | 0 => Nat.le_refl _
  | i + 1 => by
    have := unl_le xs ys i
    rw [unl_succ, List.length_append]
    split <;> simp <;> omega
theorem getD_of {xs : List PyData} {i : Nat} {d : PyData} (h : xs[i]? = some d) : xs.getD i .none = d := by rw [List.getD_eq_getElem?_getD, h]; rfl
theorem unl_empty {xs ys : List PyData} (h : xs.length = ys.length) : ∀ i, i ≤ xs.length → (unl xs ys i).isEmpty = (lkB xs ys i).all id
  | 0, _ => by simp [unl, lkB]
  | i + 1, hi => by
    have h1 : xs[i]? = some (xs[i]'(by omega)) := List.getElem?_eq_getElem _
    have h2 : ys[i]? = some (ys[i]'(by omega)) := List.getElem?_eq_getElem _
    rw [lkB_succ h1 h2, List.all_append, ← unl_empty h i (by omega)]
    rw [unl_succ, getD_of h1, getD_of h2]
    by_cases c : lkD xs[i] ys[i] = true
    · rw [if_pos c, c]
      simp
    · rw [if_neg c]
      simp [Bool.not_eq_true _ ▸ c]
/-- the kinds of a thing -/
def kinD (d : PyData) : PyData := .tuple [.bool (isT d), .bool (isB d), .bool (isS d)]
theorem kin_eqv (d e : PyData) : PyData.eqv (kinD d) (kinD e) = ((isT d == isT e) && ((isB d == isB e) && (isS d == isS e))) := by
  simp [kinD, PyData.eqv, PyData.eqvAll]
theorem kin_shaped (d : PyData) : SeqAt.shaped (kinD d) = true := shaped_ok (by simp [kinD, okD, okDs]) (by simp [kinD, PyData.depth, PyData.depthAll])
theorem kin_tup (d : PyData) : tupD (kinD d) = true := tup_ok _ (by simp [kinD, okD, okDs])
/-- where nothing stood, what comes there turns nothing -/
theorem same_upd0 {H H' : Hp} {p : Addr} {o : HO} (h : H p = none) (s : Same H H') : Same H (upd H' p o) := fun a u e => by
  rw [upd_ne (ne_of_none e h)]
  exact s a u e

/-! ### isinstance of small data -/
section
variable {K : PySem.W.Frag} {H : Hp} {v : V} {d : PyData}
theorem isi_tup (h : Dp K H v d) (ok : okD d = true) : ∃ t, TyX K H v t ∧ PySem.W.kitOne K t (.type "tuple") = some (isT d) := by
  refine ⟨_, ty_of h, ?_⟩
  cases d with
  | none => simp [okD] at ok
  | list xs => simp [okD] at ok
  | dict xs => simp [okD] at ok
  | _ => rfl
theorem isi_bool (h : Dp K H v d) (ok : okD d = true) : ∃ t, TyX K H v t ∧ PySem.W.kitOne K t (.type "bool") = some (isB d) := by
  refine ⟨_, ty_of h, ?_⟩
  cases d with
  | none => simp [okD] at ok
  | list xs => simp [okD] at ok
  | dict xs => simp [okD] at ok
  | _ => rfl
theorem isi_str (h : Dp K H v d) (ok : okD d = true) : ∃ t, TyX K H v t ∧ PySem.W.kitOne K t (.type "str") = some (isS d) := by
  refine ⟨_, ty_of h, ?_⟩
  cases d with
  | none => simp [okD] at ok
  | list xs => simp [okD] at ok
  | dict xs => simp [okD] at ok
  | _ => rfl
theorem isi_int (h : Dp K H v d) (ok : okD d = true) : ∃ t, TyX K H v t ∧ PySem.W.kitOne K t (.type "int") = some (isI d) := by
  refine ⟨_, ty_of h, ?_⟩
  cases d with
  | none => simp [okD] at ok
  | list xs => simp [okD] at ok
  | dict xs => simp [okD] at ok
  | _ => rfl
end
end Dat

set_option Elab.async false
set_option linter.all false
set_option maxRecDepth 100000
set_option maxHeartbeats 4000000
/-! Tuples that are known to be plain objects (no dict of their own): what dict() of a tuple asks. -/
namespace Dat
open PySem PySem.Spec PyProof.Rows L2 LamX PySem.W

/-- a tuple at a, no dict of its own -/
def Cln (K : PySem.W.Frag) (H : Hp) (a : Addr) (xs : List V) : Prop :=
  (∃ o : Obj, H a = some (.frz o (.tup xs)) ∧ o.dict = none) ∨
    ∃ (o : Obj) (its : Array Value) (n : Nat), K.lookup a = some o ∧ o.dict = none ∧ o.cls = .type "tuple" ∧ o.data = .seq its n ∧ its.size ≤ sizeLine ∧ Vals xs its.toList
theorem Cln.sq {K : PySem.W.Frag} {H : Hp} {a : Addr} {xs : List V} (h : Cln K H a xs) : SqT K H a xs := by
  rcases h with ⟨o, h, _⟩ | ⟨o, its, n, h1, _, h2⟩
  · exact .inl (.inr ⟨o, h⟩)
  · exact .inr ⟨o, its, n, h1, h2⟩
mutual
inductive Dq (K : PySem.W.Frag) (H : Hp) : V → PyData → Prop
  | bl (b : Bool) : Dq K H (.bl b) (.bool b)
  | int (i : Int) : Dq K H (.int i) (.int i)
  | str (x : Str) : Dq K H (.str x) (.str x)
  | tup {a : Addr} {xs : List V} {ds : List PyData} : Cln K H a xs → DqAll K H xs ds → Dq K H (.ref a) (.tuple ds)
inductive DqAll (K : PySem.W.Frag) (H : Hp) : List V → List PyData → Prop
  | nil : DqAll K H [] []
  | cons {v : V} {vs : List V} {d : PyData} {ds : List PyData} : Dq K H v d → DqAll K H vs ds → DqAll K H (v :: vs) (d :: ds)
end
/-- the known tuples stay -/
def FrzK (H H' : Hp) : Prop := ∀ a o xs, H a = some (.frz o (.tup xs)) → H' a = some (.frz o (.tup xs))
theorem FrzK.refl (H : Hp) : FrzK H H := fun _ _ _ h => h
theorem FrzK.trans {H H1 H2 : Hp} (a : FrzK H H1) (b : FrzK H1 H2) : FrzK H H2 := fun c o xs h => b c o xs (a c o xs h)
theorem FrzK.of {H H' : Hp} (e : Same H H') : FrzK H H' := fun a o xs h => e _ _ h
theorem FrzK.new {H : Hp} {p : Addr} {u : HO} (h : H p = none) : FrzK H (upd H p u) := .of (same_new h)
theorem Kp.frz {S : List Addr} {H H' : Hp} (k : Kp S H H') (hS : ∀ a ∈ S, LstAt H a) : FrzK H H' := fun a o xs h => k _ _ h fun z => hS a z xs (.inr ⟨o, h⟩)
section
variable {K : PySem.W.Frag} {H H' : Hp}
theorem Cln.fk {a : Addr} {xs : List V} (h : Cln K H a xs) (e : FrzK H H') : Cln K H' a xs := by
  rcases h with ⟨o, h, d⟩ | h
  · exact .inl ⟨o, e _ _ _ h, d⟩
  · exact .inr h
mutual
theorem Dq.dp : ∀ (d : PyData) (v : V), Dq K H v d → Dp K H v d
  | .none, _, h => by cases h
  | .bool _, _, h => by cases h; exact .bl _
  | .int _, _, h => by cases h; exact .int _
  | .str _, _, h => by cases h; exact .str _
  | .list _, _, h => by cases h
  | .dict _, _, h => by cases h
  | .tuple ds, _, h => by
    cases h with
    | tup hs ha => exact .tup hs.sq (DqAll.dp ds _ ha)
theorem DqAll.dp : ∀ (ds : List PyData) (vs : List V), DqAll K H vs ds → DpAll K H vs ds
  | [], _, h => by cases h; exact .nil
  | d :: ds, _, h => by
    cases h with
    | cons h1 h2 => exact .cons (Dq.dp d _ h1) (DqAll.dp ds _ h2)
end
mutual
theorem dq_fk (e : FrzK H H') : ∀ (d : PyData) (v : V), Dq K H v d → Dq K H' v d
  | .none, _, h => by cases h
  | .bool _, _, h => by cases h; exact .bl _
  | .int _, _, h => by cases h; exact .int _
  | .str _, _, h => by cases h; exact .str _
  | .list _, _, h => by cases h
  | .dict _, _, h => by cases h
  | .tuple ds, _, h => by
    cases h with
    | tup hs ha => exact .tup (hs.fk e) (dqAll_fk e ds _ ha)
theorem dqAll_fk (e : FrzK H H') : ∀ (ds : List PyData) (vs : List V), DqAll K H vs ds → DqAll K H' vs ds
  | [], _, h => by cases h; exact .nil
  | d :: ds, _, h => by
    cases h with
    | cons h1 h2 => exact .cons (dq_fk e d _ h1) (dqAll_fk e ds _ h2)
end
theorem Dq.p {v : V} {d : PyData} (h : Dq K H v d) : Dp K H v d := Dq.dp d v h
theorem DqAll.p {vs : List V} {ds : List PyData} (h : DqAll K H vs ds) : DpAll K H vs ds := DqAll.dp ds vs h
theorem Dq.fk {v : V} {d : PyData} (h : Dq K H v d) (e : FrzK H H') : Dq K H' v d := dq_fk e d v h
theorem DqAll.fk {vs : List V} {ds : List PyData} (h : DqAll K H vs ds) (e : FrzK H H') : DqAll K H' vs ds := dqAll_fk e ds vs h
theorem Dq.on {v : V} {d : PyData} (h : Dq K H v d) (e : Same H H') : Dq K H' v d := h.fk (.of e)
theorem DqAll.on {vs : List V} {ds : List PyData} (h : DqAll K H vs ds) (e : Same H H') : DqAll K H' vs ds := h.fk (.of e)
theorem dqa_len {vs : List V} {ds : List PyData} (h : DqAll K H vs ds) : vs.length = ds.length := dpa_len h.p
theorem dqa_get : ∀ {vs : List V} {ds : List PyData} {i : Nat} {d : PyData}, DqAll K H vs ds → ds[i]? = some d → ∃ v, vs[i]? = some v ∧ Dq K H v d
  | _, _, _, _, .nil, e => by simp at e
  | _, _, 0, _, .cons r _, e => by simp at e; subst e; exact ⟨_, rfl, r⟩
  | _, _, i + 1, d, .cons _ t, e => by
    obtain ⟨v, h1, h2⟩ := dqa_get (i := i) (d := d) t (by simpa using e)
    exact ⟨v, by simpa using h1, h2⟩
theorem dqa_getV : ∀ {vs : List V} {ds : List PyData} {i : Nat} {v : V}, DqAll K H vs ds → vs[i]? = some v → ∃ d, ds[i]? = some d ∧ Dq K H v d
  | _, _, _, _, .nil, e => by simp at e
  | _, _, 0, _, .cons r _, e => by simp at e; subst e; exact ⟨_, rfl, r⟩
  | _, _, i + 1, v, .cons _ t, e => by
    obtain ⟨d, h1, h2⟩ := dqa_getV (i := i) (v := v) t (by simpa using e)
    exact ⟨d, by simpa using h1, h2⟩
theorem dqa_app : ∀ {vs ws : List V} {ds es : List PyData}, DqAll K H vs ds → DqAll K H ws es → DqAll K H (vs ++ ws) (ds ++ es)
  | _, _, _, _, .nil, h => h
  | _, _, _, _, .cons a t, h => .cons a (dqa_app t h)
theorem DqAll.one {v : V} {d : PyData} (h : Dq K H v d) : DqAll K H [v] [d] := .cons h .nil
/-- a new known tuple of data -/
theorem dq_new {p : Addr} {o : Obj} {vs : List V} {ds : List PyData} (h : DqAll K H vs ds) (hp : H p = none) (ho : o.dict = none) : Dq K (upd H p (.frz o (.tup vs))) (.ref p) (.tuple ds) :=
  .tup (.inl ⟨o, upd_same, ho⟩) (h.on (same_new hp))
theorem Dq.tupE {v : V} {ds : List PyData} (h : Dq K H v (.tuple ds)) : ∃ a vs, v = .ref a ∧ Cln K H a vs ∧ DqAll K H vs ds := by
  cases h with
  | tup hs ha => exact ⟨_, _, rfl, hs, ha⟩
end

/-! ### tuples are laid known -/
def tTupF (t : TA) : TE := fun σ H Q => t σ H fun xs H1 => xs.length ≤ sizeLine ∧ ∀ (p : Addr) (o : Obj), H1 p = none → o.dict = none → Q (.ref p) (upd H1 p (.frz o (.tup xs)))
section
variable {X : Cx} {pos : Pos} {es : List Expr} {t : TA}
theorem pe_tupF {x1} (h : PA X es t) : PE X (.Tuple es x1 pos) (tTupF t) := by
  refine ⟨fun pins s σ H Q I hq => wpAny_Tuple_spliced (thn (h.run pos pins s σ H _ I hq) ?_)⟩
  rintro us s1 ⟨xs, H1, I1, r, z, q⟩
  refine ⟨by rw [← r.length]; exact z, ?_⟩
  have at_ : (s1.heap.push { cls := .type "tuple", data := .seq us.toArray }).get? s1.heap.objs.size = some { cls := .type "tuple", data := .seq us.toArray } := Heap.get?_push_size _ rfl
  exact ⟨.ref s1.heap.objs.size, _, I1.laid (o := .frz { cls := .type "tuple", data := .seq us.toArray } (.tup xs)) (t' := s1.toks) (fun b u e => Heap.get?_push_of_some _ e) (Nat.le_refl _) ⟨at_, z, us, r, ⟨_, at_, rfl, _, rfl⟩⟩, rfl, q _ _ (I1.hok.fresh (Nat.le_refl _)) rfl⟩
/-- tuple(xs) of a list: known; of a known tuple: that one -/
def rTupOfF (K : PySem.W.Frag) : List V → Hp → VK → Prop := fun xs H Q => ∃ p ys, xs = [.ref p] ∧ ((SqL K H p ys ∧ ∀ (l : Addr) (o : Obj), H l = none → o.dict = none → Q (.ref l) (upd H l (.frz o (.tup ys)))) ∨ (SqT K H p ys ∧ Q (.ref p) H))
theorem call_tupleF : CallR X (.type "tuple") (rTupOfF X.K) := by
  intro pins s σ H xs us Q I r h
  obtain ⟨p, ys, rfl, h⟩ := h
  obtain ⟨u, rfl, rx⟩ := Vals.one r
  cases rx
  rcases h with ⟨hq, q⟩ | ⟨hq, q⟩
  · obtain ⟨its, r', pl, hz⟩ := I.list hq
    have hlen := r'.length
    refine call_tuple_list pl.isList (fun h' kp => ?_) (by simp only [List.size_toArray] <;> omega)
    have I1 : Inv X pins σ H { s with heap := h' } := I.kept (t' := s.toks) kp
    have at_ : (h'.push { cls := .type "tuple", data := .seq its.toArray }).get? h'.objs.size = some { cls := .type "tuple", data := .seq its.toArray } := Heap.get?_push_size _ rfl
    exact ⟨.ref h'.objs.size, _, I1.laid (o := .frz { cls := .type "tuple", data := .seq its.toArray } (.tup ys)) (t' := s.toks) (fun b o e => Heap.get?_push_of_some _ e) (Nat.le_refl _) ⟨at_, hz, its, r', ⟨_, at_, rfl, _, rfl⟩⟩, rfl, q _ _ (I1.hok.fresh (Nat.le_refl _)) rfl⟩
  · obtain ⟨its, r', pl, hz⟩ := I.tuple hq
    exact call_tuple_same pl ⟨.ref p, H, I, rfl, q⟩
theorem k_tupleF (K : PySem.W.Frag) (h : X.K = K := by rfl) : CallR X (.type "tuple") (rTupOfF K) := h ▸ call_tupleF
/-- the pairs of a known tuple are laid into a new dict -/
def rDictT (K : PySem.W.Frag) : List V → Hp → VK → Prop := fun xs H Q => ∃ (a : Addr) (ps : List Addr) (kvs : List (Key × V)), xs = [.ref a] ∧ Cln K H a (ps.map V.ref) ∧ Paired (fun p kv => SqT K H p [kV kv.1, kv.2]) ps kvs ∧
  ∀ p, H p = none → Q (.ref p) (upd H p (.dK (mergeK [] kvs)))
theorem call_dictF (hc : X.calm = true) : CallR X (.type "dict") (rDictT X.K) := by
  intro pins s σ H xs us Q I r h
  obtain ⟨a, ps, kvs, rfl, ht, hp, q⟩ := h
  obtain ⟨u, rfl, rx⟩ := Vals.one r
  cases rx
  obtain ⟨o, its, n, rv, e1, e2, e3, e4, hz⟩ : ∃ (o : Obj) (its : List Value) (n : Nat), Vals (ps.map V.ref) its ∧ s.heap.get? a = some o ∧ o.dict = none ∧ o.cls = .type "tuple" ∧ o.data = .seq its.toArray n ∧ (ps.map V.ref).length ≤ sizeLine := by
    rcases ht with ⟨o, hf, hd⟩ | ⟨o, its, n, hk, hd, hcl, hdat, hz, rv⟩
    · obtain ⟨e, z, its, rv, o', e', hcl, n, hdat⟩ := I.hok a _ hf
      rw [e] at e'
      cases e'
      exact ⟨o, its, n, rv, e, hd, hcl, hdat, z⟩
    · refine ⟨o, its.toList, n, rv, I.kIn a o hk, hd, hcl, by simpa using hdat, ?_⟩
      rw [rv.length, Array.length_toList]
      exact hz
  have ei := refs_at rv
  subst ei
  rw [List.length_map] at hz
  obtain ⟨prs, rel, hl, hpr⟩ := pairs_of I hp
  have ex : ∀ j : Nat, ∃ u : Value, ∀ q', prs[j]? = some q' → ps[j]? = some (ps.getD j 0) ∧ IsTup s.heap (ps.getD j 0) #[u, q'.2] ∧ keyIs q'.1 u = true := fun j => by
    cases hj : prs[j]? with
    | none => exact ⟨.none, fun _ z => by cases z⟩
    | some q' =>
      obtain ⟨b, u, f1, f2, f3⟩ := hpr j q' hj
      have eb : ps.getD j 0 = b := by rw [List.getD_eq_getElem?_getD, f1]; rfl
      refine ⟨u, fun q'' z => ?_⟩
      cases z
      rw [eb]
      exact ⟨f1, f2, f3⟩
  obtain ⟨U, hU⟩ := Classical.axiomOfChoice ex
  have at_ : ∀ j, (prs.zipIdx.map fun r => (U r.2, r.1.2))[j]? = prs[j]?.map fun q' => (U j, q'.2) := fun j => by
    rw [List.getElem?_map, List.getElem?_zipIdx]
    cases prs[j]? with
    | none => rfl
    | some q' => simp
  have get : ∀ j k v, (prs.zipIdx.map fun r => (U r.2, r.1.2))[j]? = some (k, v) → ∃ q', prs[j]? = some q' ∧ k = U j ∧ v = q'.2 := fun j k v e => by
    rw [at_] at e
    cases hj : prs[j]? with
    | none => rw [hj] at e; cases e
    | some q' =>
      rw [hj] at e
      cases e
      exact ⟨q', rfl, rfl, rfl⟩
  have size : (prs.zipIdx.map fun r => (U r.2, r.1.2)).length = prs.length := by rw [List.length_map, List.length_zipIdx]
  refine PySem.call_dict_pairs (knd := mixKind X.prog X.w) (kvs := prs) (PairArg.tuple a (ps.map Value.ref).toArray (fun j => ps.getD j 0) (prs.zipIdx.map fun r => (U r.2, r.1.2))) (I.ok.hd hc) ⟨⟨o, n, e1, e3, e2, e4⟩, ⟨by rw [size]; simp [hl], fun j k v e => ?_⟩⟩ ⟨size.symm, fun j k v e => ?_⟩ (by rw [size, hl]; exact hz) fun h' tk hd' k => ?_
  · obtain ⟨q', hj, rfl, rfl⟩ := get j k v e
    obtain ⟨f1, f2, _⟩ := hU j q' hj
    refine ⟨by rw [List.getElem?_toArray, List.getElem?_map, f1]; rfl, .inl ?_⟩
    obtain ⟨o', g1, g2, n', g3⟩ := f2
    exact ⟨o', g1, g2, n', g3⟩
  · obtain ⟨q', hj, rfl, rfl⟩ := get j k v e
    exact ⟨q'.1, hj, (hU j q' hj).2.2⟩
  · have hm : (s.heap.objs.size == sysModules) = false := beq_eq_false_iff_ne.mpr (Nat.ne_of_gt I.big)
    have few : (mergeK [] kvs).length ≤ sizeLine := by
      have := length_mergeK kvs []
      have := rel.length
      simp only [List.length_nil] at *
      omega
    exact ⟨.ref s.heap.objs.size, _, I.laid (o := .dK (mergeK [] kvs)) (t' := tk) (fun b o e => k b o (by simp) e) (Nat.le_refl _) ⟨few, hm, merged [] prs, KV.merge rel .nil, hd'⟩, rfl, q _ (I.hok.fresh (Nat.le_refl _))⟩
theorem k_dictT (K : PySem.W.Frag) (hc : X.calm = true := by rfl) (h : X.K = K := by rfl) : CallR X (.type "dict") (rDictT K) := h ▸ call_dictF hc
end
end Dat

set_option Elab.async false
set_option linter.all false
set_option maxRecDepth 100000
set_option maxHeartbeats 4000000
/-! dict(enumerate(t)), t a tuple. -/
namespace Dat
open PySem PySem.Spec PyProof.Rows L2
section
variable {P : Program} {w : World} {A : Around} {E : Value → Shared → Prop} {s : Shared}
/-- the next pair while the one ahead is still there -/
theorem enum_next {e it T : Addr} {fp : List Addr} {n i : Nat} {R : Nat → Value → Prop} {St : Nat → Heap → Prop} {old : Value} {f : Bool} {oT : Obj} {Q : Value → Shared → Prop} (D : Draws P w A it fp n R St)
    (he : IsEnumHeld s.heap e it i old T f) (hT : s.heap.get? T = some oT) (Te : T ≠ e) (Ti : T ≠ it) (st : St i s.heap) (lt : i < n) (ne : e ≠ it) (nf : e ∉ fp)
    (q : ∀ (x : Value) (h' : Heap) (tk : Tok), R i x → IsEnumHeld h' e it ((i : Int) + 1) old T true → St (i + 1) h' → h'.get? s.heap.objs.size = some { cls := .type "tuple", data := .seq #[.int i tk, x] } →
      (∀ b o, b ≠ e → b ≠ it → s.heap.get? b = some o → h'.get? b = some o) → Q (.ref s.heap.objs.size) { s with heap := h', toks := tk + 1 }) :
    wpAny (model P w) A (Builtin.«enumerate.__next__» ⟨[.ref e], []⟩) (fun fin s' => ∃ v, fin = .done (.ret v) ∧ Q v s') E s := by
  obtain ⟨h0, gs, dr, tk0, os⟩ := s
  show wpAny _ _ (field (.ref e) 2 >>= _) _ _ _
  refine wpAny_bind (wpAny_field he rfl (x := .ref it) rfl (wpAny_bind (D.item i _ _ _ lt st fun x h1 tk hx st1 sb1 => ?_)))
  have sb1 : Heap.SameBut it h0 h1 := sb1
  have he1 : IsEnumHeld h1 e it i old T f := (sb1.2 e ne).trans he
  show wpAny _ _ (field (.ref e) 3 >>= _) _ _ ⟨h1, gs, dr, tk, os⟩
  refine wpAny_bind (wpAny_field he1 rfl (x := rawInt i) rfl ?_)
  show wpAny _ _ (field (.ref e) 4 >>= _) _ _ ⟨h1, gs, dr, tk, os⟩
  refine wpAny_bind (wpAny_field he1 rfl (x := .none) rfl ?_)
  show wpAny _ _ (mkInt i >>= _) _ _ ⟨h1, gs, dr, tk, os⟩
  refine wpAny_bind (wpAny_mkInt ?_)
  show wpAny _ _ (setField (.ref e) 3 (rawInt ((i : Int) + 1)) >>= _) _ _ ⟨h1, gs, dr, tk + 1, os⟩
  refine wpAny_bind (wpAny_setField_rec he1 (by simp) fun h2 he2 sb2 => ?_)
  have sb2 : Heap.SameBut e h1 h2 := sb2
  have he2 : IsEnumHeld h2 e it ((i : Int) + 1) old T f := he2
  show wpAny _ _ (setField (.ref e) 4 .none >>= _) _ _ ⟨h2, gs, dr, tk + 1, os⟩
  refine wpAny_bind (wpAny_setField_rec he2 (by simp) fun h3 he3 sb3 => ?_)
  have sb3 : Heap.SameBut e h2 h3 := sb3
  have he3 : IsEnumHeld h3 e it ((i : Int) + 1) old T f := he3
  show wpAny _ _ (newTuple [.int i tk, x] >>= _) _ _ ⟨h3, gs, dr, tk + 1, os⟩
  refine wpAny_bind (wpAny_newTuple ?_)
  have sz : h3.objs.size = h0.objs.size := by rw [sb3.1, sb2.1, sb1.1]
  have le : e < h0.objs.size := Heap.lt_size he
  have at3 : (h3.push { cls := .type "tuple", data := .seq #[.int i tk, x] }).get? h0.objs.size = some { cls := .type "tuple", data := .seq #[.int i tk, x] } := by rw [← sz]; exact Heap.get?_push_size _ rfl
  have he4 : IsEnumHeld (h3.push { cls := .type "tuple", data := .seq #[.int i tk, x] }) e it ((i : Int) + 1) old T f := Heap.get?_push_of_some _ he3
  have kp : ∀ b o, b ≠ e → b ≠ it → h0.get? b = some o → (h3.push { cls := .type "tuple", data := .seq #[.int i tk, x] }).get? b = some o := fun b o be bi hb =>
    Heap.get?_push_of_some _ (sb3.extBut b o be (sb2.extBut b o be (sb1.extBut b o bi hb)))
  have st4 : St (i + 1) (h3.push { cls := .type "tuple", data := .seq #[.int i tk, x] }) := D.frame _ _ _ st1 fun b hb o y =>
    have be : b ≠ e := fun z => nf (z ▸ hb)
    Heap.get?_push_of_some _ (sb3.extBut b o be (sb2.extBut b o be y))
  generalize h3.push { cls := .type "tuple", data := .seq #[.int i tk, x] } = h4 at at3 he4 kp st4 ⊢
  show wpAny _ _ (Builtin.SmallTypes.ownedTupleIsFree (.ref e) >>= _) _ _ ⟨h4, gs, dr, tk + 1, os⟩
  rw [sz]
  refine wpAny_bind (wpAny_tupleHeld_enum (s := ⟨h4, gs, dr, tk + 1, os⟩) he4 (kp T oT Te Ti hT) fun h5 he5 sb5 => ?_)
  have sb5 : Heap.SameBut e h4 h5 := sb5
  simp only [Bool.false_eq_true, if_false]
  exact wpAny_pure ⟨_, rfl, q x h5 tk hx he5 (D.frame _ _ _ st4 fun b hb o y => sb5.extBut b o (fun z => nf (z ▸ hb)) y) (sb5.extBut _ _ (Nat.ne_of_gt le) at3) fun b o be bi hb => sb5.extBut b o be (kp b o be bi hb)⟩
theorem enum_pyNext {e it T : Addr} {fp : List Addr} {n i : Nat} {R : Nat → Value → Prop} {St : Nat → Heap → Prop} {old : Value} {f : Bool} {oT : Obj} {Q : Option Value → Shared → Prop} (D : Draws P w A.in1 it fp n R St)
    (he : IsEnumHeld s.heap e it i old T f) (hT : s.heap.get? T = some oT) (Te : T ≠ e) (Ti : T ≠ it) (st : St i s.heap) (lt : i < n) (ne : e ≠ it) (nf : e ∉ fp)
    (q : ∀ (x : Value) (h' : Heap) (tk : Tok), R i x → IsEnumHeld h' e it ((i : Int) + 1) old T true → St (i + 1) h' → h'.get? s.heap.objs.size = some { cls := .type "tuple", data := .seq #[.int i tk, x] } →
      (∀ b o, b ≠ e → b ≠ it → s.heap.get? b = some o → h'.get? b = some o) → Q (some (.ref s.heap.objs.size)) { s with heap := h', toks := tk + 1 }) :
    wpAny (model P w) A (pyNext (.ref e)) Q E s := by
  have ty : s.TypeIs (.ref e) "enumerate" := ⟨_, he, rfl⟩
  unfold pyNext
  exact wpAny_bind (wpAny_attempt (wpAny_callSpecial?_slot (name := Str.ofString "__next__") ty PySem.F.slot_enumerate_next (wpAny_call_entry PySem.F.slot_enumerate_next ty PySem.F.entry_enumerate_next
    (enum_next D he hT Te Ti st lt ne nf fun x h' tk a b c d k => wpAny_pure (q x h' tk a b c d k)) (PySem.F.args_enumerate_next_1 _))))
theorem enum_stop {e it T : Addr} {fp : List Addr} {n : Nat} {i : Int} {R : Nat → Value → Prop} {St : Nat → Heap → Prop} {old : Value} {f : Bool} {Q : Option Value → Shared → Prop} (D : Draws P w A.in1 it fp n R St)
    (he : IsEnumHeld s.heap e it i old T f) (st : St n s.heap) (q : ∀ h', Heap.ExtBut it s.heap h' → Q none { s with heap := h' }) : wpAny (model P w) A (pyNext (.ref e)) Q E s := by
  have ty : s.TypeIs (.ref e) "enumerate" := ⟨_, he, rfl⟩
  unfold pyNext
  refine wpAny_bind (wpAny_attempt (wpAny_callSpecial?_slot (name := Str.ofString "__next__") ty PySem.F.slot_enumerate_next (wpAny_call_entry PySem.F.slot_enumerate_next ty PySem.F.entry_enumerate_next ?_ (PySem.F.args_enumerate_next_1 _))))
  show wpAny _ _ (field (.ref e) 2 >>= _) _ _ _
  refine wpAny_bind (wpAny_field he rfl (x := .ref it) rfl (wpAny_bind (D.done _ _ _ st fun h' x k ⟨o, ho, hc⟩ => ?_)))
  exact wpAny_bind (wpAny_isInstance (T := "StopIteration") (b := true) ⟨o, ho, hc⟩ isSubtype_stop (wpAny_pure (q _ k)))
end
end Dat

set_option Elab.async false
set_option linter.all false
set_option maxRecDepth 100000
set_option maxHeartbeats 4000000
/-! dict(enumerate(t)), t a tuple: the argument, the call. -/
namespace Dat
open PySem PySem.Spec PyProof.Rows L2
section
variable {P : Program} {w : World}
theorem enum_arg (e it l : Addr) (ei : e ≠ it) (le : l ≠ e) (li : l ≠ it) (items : Array Value) :
    PairArg P w "enumerate" e [e, it, l] [e, it] items.size (fun i k v => (∃ t, k = .int i t) ∧ items[i]? = some v) (fun h => (∃ old, IsEnum h e it 0 old) ∧ h.IsTupleIter it l 0 ∧ h.IsTuple l items) := by
  have nf : e ∉ [it, l] := by simp [ei, le.symm]
  constructor
  · rintro s ⟨⟨_, he⟩, _⟩
    exact ⟨_, he, rfl⟩
  · decide
  · rintro h h' ⟨⟨old, he⟩, it0, tp⟩ k
    obtain ⟨o1, a1, r1⟩ := it0
    obtain ⟨o2, a2, r2⟩ := tp
    exact ⟨⟨old, k _ _ he⟩, ⟨o1, k _ _ a1, r1⟩, ⟨o2, k _ _ a2, r2⟩⟩
  · rintro h ⟨⟨old, he⟩, ⟨o1, a1, _⟩, ⟨o2, a2, _⟩⟩ b hb
    simp only [List.mem_cons, List.not_mem_nil, or_false] at hb
    rcases hb with z | z | z <;> rw [z]
    · exact ⟨_, he⟩
    · exact ⟨_, a1⟩
    · exact ⟨_, a2⟩
  · intro b hb
    simp only [List.mem_cons, List.not_mem_nil, or_false] at hb ⊢
    rcases hb with z | z
    · exact .inl z
    · exact .inr (.inl z)
  · rintro A s Q E hA ⟨⟨_, he⟩, _⟩ q
    exact getAttrOr_miss_enumerate he rfl rfl rfl enumerate_no_keys (by decide +kernel) hA q
  · rintro A s d Q E hA ⟨⟨old, he⟩, it0, tp⟩ hd hdf q
    simp only [List.mem_cons, List.not_mem_nil, or_false, not_or] at hdf
    obtain ⟨de, di, dl⟩ := hdf
    have D := Draws.tuple (prog := P) (w := w) (A := A.in1) hA it l li items
    refine wpAny_pyIter_enum he (q e [e, it] (fun i h => (h.IsTupleIter it l i ∧ h.IsTuple l items) ∧ ((∃ old, IsEnum h e it i old) ∨ ∃ old T f oT, IsEnumHeld h e it i old T f ∧ h.get? T = some oT ∧ T ≠ e ∧ T ≠ it ∧ T ≠ d)) s.heap s.toks ?_ ⟨⟨it0, tp⟩, .inl ⟨old, he⟩⟩ (fun _ _ z => z) fun b hb => .inl hb)
    constructor
    · simp only [List.mem_cons, List.not_mem_nil, or_false, not_or]
      exact ⟨de, di⟩
    · rintro i h1 h2 ⟨st, he⟩ k
      refine ⟨D.frame i h1 h2 st fun b hb o x => k b o (fun z => ?_) x, ?_⟩
      · simp only [List.mem_cons, List.not_mem_nil, or_false] at hb
        rcases hb with y | y
        · exact di (by rw [← z, y])
        · exact dl (by rw [← z, y])
      · rcases he with ⟨old, he⟩ | ⟨old, T, f, oT, he, hT, r1, r2, r3⟩
        · exact .inl ⟨old, k _ _ (Ne.symm de) he⟩
        · exact .inr ⟨old, T, f, oT, k _ _ (Ne.symm de) he, k _ _ r3 hT, r1, r2, r3⟩
    · rintro i s1 Q1 E1 hi ⟨st, he⟩ hds q1
      have ec : ((i + 1 : Nat) : Int) = (i : Int) + 1 := by omega
      have ni : s1.heap.objs.size ≠ it := by
        obtain ⟨_, x, _⟩ := st.1
        exact Nat.ne_of_gt (Heap.lt_size x)
      rcases he with ⟨old, he⟩ | ⟨old, T, f, oT, he, hT, r1, r2, r3⟩
      · refine wpAny_pyNext_enum_itemD D he st hi ei nf fun x h' tk hx ho st' hT _ k => ?_
        exact q1 s1.heap.objs.size _ _ h' (tk + 1) ⟨⟨_, rfl⟩, hx⟩ (.inl ⟨_, hT, rfl, _, rfl⟩) ⟨st', .inr ⟨_, s1.heap.objs.size, false, _, by rw [ec]; exact ho, hT, Nat.ne_of_gt (Heap.lt_size he), ni, Nat.ne_of_gt hds⟩⟩
          fun b o hb x => k b o (fun y => hb (by simp [y])) (fun y => hb (by simp [y])) x
      · refine enum_pyNext D he hT r1 r2 st hi ei nf fun x h' tk hx ho st' hT' k => ?_
        exact q1 s1.heap.objs.size _ _ h' (tk + 1) ⟨⟨_, rfl⟩, hx⟩ (.inl ⟨_, hT', rfl, _, rfl⟩) ⟨st', .inr ⟨old, T, true, oT, by rw [ec]; exact ho, k _ _ r1 r2 hT, r1, r2, r3⟩⟩
          fun b o hb x => k b o (fun y => hb (by simp [y])) (fun y => hb (by simp [y])) x
    · rintro s1 Q1 E1 ⟨st, he⟩ q1
      rcases he with ⟨old, he⟩ | ⟨old, T, f, oT, he, _⟩
      · exact wpAny_pyNext_enum_endD D he st fun h' k => q1 h' s1.toks fun b o hb x => k b o (fun y => hb (by simp [y])) x
      · exact enum_stop D he st fun h' k => q1 h' s1.toks fun b o hb x => k b o (fun y => hb (by simp [y])) x
end
end Dat

set_option Elab.async false
set_option linter.all false
set_option maxRecDepth 100000
set_option maxHeartbeats 4000000
/-! enumerate(t), t a tuple: made; dict(enumerate(t)). -/
namespace Dat
open PySem PySem.Spec PyProof.Rows L2
open AutoSeq1 (wpAny_loadPart')
abbrev enO (it : Addr) : Obj := { cls := .type "enumerate", data := .fields #[.none, .bool false, .ref it, rawInt 0, .none, .none] }
abbrev tiO (t : Addr) : Obj := { cls := .type "tuple_iterator", data := .fields #[.ref t, .int 0 0] }
theorem enum_new (t : Addr) (items : Array Value) (n : Nat) (dc : Option Addr) (sl : Array (Option Value)) :
    Meets (Builtin.«enumerate.__new__» ⟨[.type "enumerate", .ref t], []⟩) (fun _ R s => s.heap.get? t = some { cls := .type "tuple", dict := dc, data := .seq items n, slots := sl } ∧
      R (.ok (.ret (.ref (s.heap.push (tiO t)).objs.size))) { s with heap := (s.heap.push (tiO t)).push (enO s.heap.objs.size) }) := by
  refine .of_wp fun P w A R s h => ?_
  obtain ⟨hp, gs, dr, tk, os⟩ := s
  obtain ⟨at_, h⟩ := h
  have sub := sub_enumerate
  have tp : Heap.IsTuple (Shared.heap ⟨hp, gs, dr, tk, os⟩) t items := ⟨_, at_, rfl, n, rfl⟩
  wp_walk using wpAny_loadPart' at_
  refine wpAny_stack_any fun st => wpAny_pure ?_
  split
  · rename_i c _ _ _ _ _
    cases (c == Value.type "enumerate") <;> (wp_walk using wpAny_loadPart' at_, wpAny_pyIter_tuple tp; exact ⟨_, rfl, h⟩)
  · wp_walk using wpAny_loadPart' at_, wpAny_pyIter_tuple tp
    exact ⟨_, rfl, h⟩
section
variable {P : Program} {w : World} {A : Around} {E : Value → Shared → Prop} {s : Shared}
theorem call_enumT {t : Addr} {items : Array Value} {Q : Value → Shared → Prop} (tp : s.heap.IsTuple t items)
    (q : ∀ h', IsEnum h' (s.heap.objs.size + 1) s.heap.objs.size 0 .none → h'.IsTupleIter s.heap.objs.size t 0 → (∀ b o, s.heap.get? b = some o → h'.get? b = some o) → Q (.ref (s.heap.objs.size + 1)) { s with heap := h' }) :
    wpAny (model P w) A (call (.type "enumerate") [.ref t]) Q E s := by
  obtain ⟨⟨c, dc, da, sl⟩, at_, hc, n, hd⟩ := tp
  simp only at hc hd
  subst hc hd
  refine callType_new PySem.F.called_enumerate (by decide) (PySem.F.typeCall_enumerate_1 _) (PySem.F.newCall_enumerate_1 _) (fun obj => PySem.F.args_object_init_2 obj _) PySem.F.entry_enumerate_new (enum_new t items n dc sl) ⟨at_, ?_⟩
  have sz : (s.heap.push (tiO t)).objs.size = s.heap.objs.size + 1 := Heap.size_push ..
  show _ ∧ _
  rw [sz]
  have he : IsEnum ((s.heap.push (tiO t)).push (enO s.heap.objs.size)) (s.heap.objs.size + 1) s.heap.objs.size 0 .none := by
    have := Heap.get?_push_size (s.heap.push (tiO t)) (o := enO s.heap.objs.size) rfl
    rw [sz] at this
    exact this
  exact ⟨⟨_, he, rfl⟩, q _ he ⟨_, Heap.get?_push_of_some _ (Heap.get?_push_size _ rfl), rfl, rfl⟩ fun b o x => Heap.get?_push_of_some _ (Heap.get?_push_of_some _ x)⟩
end
end Dat

set_option Elab.async false
set_option linter.all false
set_option maxRecDepth 100000
set_option maxHeartbeats 4000000
/-! dict(enumerate(t)), t a tuple: the rule. -/
namespace Dat
open PySem PySem.Spec PyProof.Rows L2
/-- numbers from i, and the things -/
def enL {α : Type} : Nat → List α → List (Key × α)
  | _, [] => []
  | i, x :: xs => (Sum.inl (i : Int), x) :: enL (i + 1) xs
theorem enL_len {α : Type} : ∀ (i : Nat) (xs : List α), (enL i xs).length = xs.length
  | _, [] => rfl
  | i, x :: xs => by rw [enL, List.length_cons, List.length_cons, enL_len]
theorem enL_get {α : Type} : ∀ (xs : List α) (i j : Nat), (enL i xs)[j]? = xs[j]?.map fun x => (Sum.inl ((i + j : Nat) : Int), x)
  | [], _, _ => by simp [enL]
  | x :: xs, i, 0 => by simp [enL]
  | x :: xs, i, j + 1 => by
    rw [enL, List.getElem?_cons_succ, List.getElem?_cons_succ, enL_get xs (i + 1) j, show i + 1 + j = i + (j + 1) by omega]
theorem enL_kv : ∀ {xs : List V} {us : List Value} (i : Nat), Vals xs us → KV (enL i xs) (enL i us)
  | _, _, _, .nil => .nil
  | _, _, i, .cons r t => .cons ⟨rfl, r⟩ (enL_kv (i + 1) t)
def tDictEnum (K : PySem.W.Frag) (ta : TA) : TE := fun σ H Q => ta σ H fun vs H1 => ∃ (a : Addr) (xs : List V), vs = [.ref a] ∧ SqT K H1 a xs ∧ ∀ p, H1 p = none → Q (.ref p) (upd H1 p (.dK (mergeK [] (enL 0 xs))))
section
variable {X : Cx}
theorem pe_dictEnum {e : Expr} {ta : TA} {p p2 pos pos2 : Pos} (hc : X.calm = true) (hg : Gl X "dict") (hm : X.mg "dict" = none) (hb : bootBuiltins "dict" = some (.type "dict")) (hg2 : Gl X "enumerate") (hm2 : X.mg "enumerate" = none) (ha : PA X [e] ta)
    (n2 : starEach [e] X.env = [(false, eval e X.env)] := by rfl)
    (na : starEach [.Call (.Name "enumerate" p2) [e] [] pos2] X.env = (false, eval (.Call (.Name "enumerate" p2) [e] [] pos2) X.env) :: starEach [] X.env := by rfl) :
    PE X (.Call (.Name "dict" p) [.Call (.Name "enumerate" p2) [e] [] pos2] [] pos) (tDictEnum X.K ta) := by
  refine ⟨fun pins s σ H Q I h => ?_⟩
  refine Call_ (ld_blt I hg hm hb (PyProof.Rows.callWith_type1 (args_cons ?_ na) na))
  refine Call_ (ld_blt I hg2 hm2 boot_enumerate (PyProof.Rows.callWith_type1 (thn (ha.run pos2 pins s σ H _ I h) ?_) n2 rfl))
  rintro us s1 ⟨vs, H1, I1, r1, a, xs, rfl, ht, q⟩
  obtain ⟨u, rfl, rx⟩ := Vals.one r1
  cases rx
  obtain ⟨its, rv, tp, hz⟩ := I1.tuple ht
  have la : a < s1.heap.objs.size := tp.lt
  refine call_enumT tp fun h1 he hit k1 => args_nil ?_
  have l1 : s1.heap.objs.size + 1 < h1.objs.size := Heap.lt_size he
  have tp1 : h1.IsTuple a its.toArray := tp.keeps k1
  refine PySem.call_dict_pairs (s := { s1 with heap := h1 }) (knd := mixKind X.prog X.w) (kvs := enL 0 its) (enum_arg (s1.heap.objs.size + 1) s1.heap.objs.size a (Nat.succ_ne_self _) (Nat.ne_of_lt (Nat.lt_succ_of_lt la)) (Nat.ne_of_lt la) its.toArray) (I1.ok.hd hc) ⟨⟨_, he⟩, hit, tp1⟩ ⟨?_, ?_⟩ ?_ fun h2 tk d2 k2 => ?_
  · rw [enL_len, List.size_toArray]
  · rintro i key v ⟨⟨t, rfl⟩, hv⟩
    refine ⟨Sum.inl (i : Int), ?_, ?_⟩
    · rw [enL_get]
      have hv' : its[i]? = some v := by simpa using hv
      rw [hv', Nat.zero_add]
      rfl
    · show Value.isInt (i : Int) (.int i t) = true
      simp [Value.isInt]
  · rw [List.size_toArray, ← rv.length]
    exact hz
  · have old : ∀ b o, s1.heap.get? b = some o → h2.get? b = some o := fun b o e => k2 b o (by
      have lb : b < s1.heap.objs.size := Heap.lt_size e
      simp only [List.mem_cons, List.not_mem_nil, or_false, not_or]
      exact ⟨Nat.ne_of_lt (Nat.lt_succ_of_lt lb), Nat.ne_of_lt lb⟩) (k1 b o e)
    have ge : s1.heap.objs.size ≤ h1.objs.size := Nat.le_of_lt (Nat.lt_trans (Nat.lt_succ_self _) l1)
    have big := I1.big
    have few : (mergeK [] (enL 0 xs)).length ≤ sizeLine := by
      have z1 := length_mergeK (enL 0 xs) []
      rw [enL_len] at z1
      simp only [List.length_nil] at z1
      omega
    exact ⟨.ref h1.objs.size, _, I1.laid (o := .dK (mergeK [] (enL 0 xs))) (t' := tk) old ge ⟨few, beq_eq_false_iff_ne.mpr (Nat.ne_of_gt (Nat.lt_of_lt_of_le big ge)), merged [] (enL 0 its), KV.merge (enL_kv 0 rv) .nil, d2⟩, rfl, q _ (I1.hok.fresh ge)⟩
end
end Dat

set_option Elab.async false
set_option linter.all false
set_option maxRecDepth 100000
set_option maxHeartbeats 4000000
/-! a < b of alike data. -/
namespace Dat
open PySem PySem.Spec PyProof.Rows L2 LamX PySem.W
def rLtD (K : PySem.W.Frag) : R2 := fun x y H Q => ∃ d e, Dp K H x d ∧ Dp K H y e ∧ alike d e = true ∧ d ≠ .none ∧ d.depth ≤ 64 ∧ Q (.bl (dataLt d e)) H
theorem op_ltD {X : Cx} (hu : X.A.units + 64 < cLine) : OpR X (compareOp .Lt) (rLtD X.K) := by
  intro pins s σ H x y v u Q I rx ry h
  obtain ⟨d, e, hd, he, al, nn, dl, q⟩ := h
  obtain ⟨as, r1⟩ := Dp.reads I d x v hd rx
  obtain ⟨bs, r2⟩ := Dp.reads I e y u he ry
  exact lt_data r1 r2 al nn (by have := Nat.min_le_left d.depth e.depth; omega) ⟨.bl _, H, I, rfl, q⟩
theorem k_ltD {X : Cx} (K : PySem.W.Frag) (hu : X.A.units + 64 < cLine) (h : X.K = K := by rfl) : OpR X (compareOp .Lt) (rLtD K) := h ▸ op_ltD hu
end Dat

set_option Elab.async false
set_option linter.all false
set_option maxRecDepth 100000
set_option maxHeartbeats 4000000
/-! The functional reading, I: values, a store of changeable objects, how they stand in the abstract heap. -/
namespace Fu
open PySem PySem.Spec PyProof.Rows L2 Dat LamX

/-- a value: data; a changeable object by its number in the store; a built-in class; the script -/
inductive Wv where
  | d (x : PyData)
  | r (i : Nat)
  | t (n : String)
  | s (ns : List Int)
/-- a changeable object -/
inductive Ob where
  | lst (ws : List Wv)
  | dct (kvs : List (Key × Wv))
  | lk (kvs : List (Key × Wv))
abbrev Sto := List Ob
abbrev Slo := List (Option Wv)
/-- an exception: its class's name, its fields -/
structure Xc where
  cls : Str
  fs : List (Str × PyData)
inductive Res (α : Type) where
  | ok (a : α) (M : Sto)
  | ex (x : Xc) (M : Sto)
  | bad
def Res.bind {α β : Type} : Res α → (α → Sto → Res β) → Res β
  | .ok a M, k => k a M
  | .ex x M, _ => .ex x M
  | .bad, _ => .bad
def Res.on {α : Type} (r : Res α) (p : α → Sto → Prop) : Prop := match r with
  | .ok a M => p a M
  | _ => False
@[simp] theorem bind_ok {α β : Type} (a : α) (M : Sto) (k : α → Sto → Res β) : (Res.ok a M).bind k = k a M := rfl
@[simp] theorem bind_bad {α β : Type} (k : α → Sto → Res β) : (Res.bad : Res α).bind k = .bad := rfl
@[simp] theorem bind_ex {α β : Type} (x : Xc) (M : Sto) (k : α → Sto → Res β) : (Res.ex x M : Res α).bind k = .ex x M := rfl
@[simp] theorem on_ok {α : Type} (a : α) (M : Sto) (p : α → Sto → Prop) : (Res.ok a M).on p = p a M := rfl
@[simp] theorem on_bad {α : Type} (p : α → Sto → Prop) : (Res.bad : Res α).on p = False := rfl
@[simp] theorem on_ex {α : Type} (x : Xc) (M : Sto) (p : α → Sto → Prop) : (Res.ex x M : Res α).on p = False := rfl
theorem on_bind {α β : Type} {r : Res α} {k : α → Sto → Res β} {p : β → Sto → Prop} (h : (r.bind k).on p) : r.on fun a M => (k a M).on p := by
  cases r <;> simpa using h
theorem on_mono {α : Type} {r : Res α} {p q : α → Sto → Prop} (h : r.on p) (f : ∀ a M, r = .ok a M → p a M → q a M) : r.on q := by
  cases r with
  | ok a M => exact f a M rfl h
  | ex x M => exact h
  | bad => exact h
/-- of a partial function -/
def ofO {α : Type} (o : Option α) (M : Sto) : Res α := match o with
  | some a => .ok a M
  | none => .bad
@[simp] theorem ofO_some {α : Type} (a : α) (M : Sto) : ofO (some a) M = .ok a M := rfl
@[simp] theorem ofO_none {α : Type} (M : Sto) : ofO (none : Option α) M = .bad := rfl
theorem ofO_on {α : Type} {o : Option α} {M : Sto} {p : α → Sto → Prop} (h : (ofO o M).on p) : ∃ a, o = some a ∧ p a M := by
  cases o with
  | none => exact h.elim
  | some a => exact ⟨a, rfl, h⟩

/-- the addresses of the known changeable objects, by number; those held back meanwhile; what is locked meanwhile -/
structure Ms where
  a : List Addr
  r : List Addr
  p : List (Addr × HO)
instance : Membership Addr Ms := ⟨fun m x => x ∈ m.a ∨ x ∈ m.r⟩
theorem Ms.mem_iff {m : Ms} {x : Addr} : x ∈ m ↔ x ∈ m.a ∨ x ∈ m.r := Iff.rfl
def Ms.add (m : Ms) (p : Addr) : Ms := ⟨m.a ++ [p], m.r, m.p⟩
def Ms.hold (m : Ms) (p : Addr) : Ms := ⟨m.a, p :: m.r, m.p⟩
def Ms.pin (m : Ms) (q : Addr × HO) : Ms := ⟨m.a, m.r, q :: m.p⟩

/-! ### what turns between two heaps: the known changeable ones alone; new ones may come -/
def NoTb (o : HO) : Prop := ∀ ps, o ≠ .tbl ps
structure Ext (ms ms' : Ms) (H H' : Hp) : Prop where
  pre : ∃ more, ms'.a = ms.a ++ more ∧ ∀ a ∈ more, ∀ o, H a = some o → ¬ NoTb o
  hr : ms'.r = ms.r
  hp : ms'.p = ms.p
  fr : ∀ a o, H a = some o → a ∉ ms.a → (∀ ps, o ≠ .tbl ps) → H' a = some o
  lv : ∀ a o, H a = some o → NoTb o → ∃ u, H' a = some u ∧ NoTb u
theorem Ext.refl (ms : Ms) (H : Hp) : Ext ms ms H H := ⟨⟨[], by simp, by simp⟩, rfl, rfl, fun _ _ h _ _ => h, fun _ o h n => ⟨o, h, n⟩⟩
theorem Ext.ninA {ms ms' : Ms} {H H' : Hp} (e : Ext ms ms' H H') {a : Addr} {o : HO} (h : H a = some o) (n : a ∉ ms.a) (t : NoTb o) : a ∉ ms'.a := by
  obtain ⟨more, em, hm⟩ := e.pre
  rw [em]
  intro z
  rcases List.mem_append.mp z with z | z
  · exact n z
  · exact hm a z o h t
theorem Ext.nin {ms ms' : Ms} {H H' : Hp} (e : Ext ms ms' H H') {a : Addr} {o : HO} (h : H a = some o) (n : a ∉ ms) (t : NoTb o) : a ∉ ms' := by
  intro z
  rcases z with z | z
  · exact e.ninA h (fun q => n (.inl q)) t z
  · rw [e.hr] at z
    exact n (.inr z)
theorem Ext.trans {ms m1 m2 : Ms} {H H1 H2 : Hp} (a : Ext ms m1 H H1) (b : Ext m1 m2 H1 H2) : Ext ms m2 H H2 := by
  refine ⟨?_, b.hr.trans a.hr, b.hp.trans a.hp, fun c o h n t => ?_, fun c o h t => ?_⟩
  · obtain ⟨x, ex, hx⟩ := a.pre
    obtain ⟨y, ey, hy⟩ := b.pre
    refine ⟨x ++ y, by rw [ey, ex, List.append_assoc], fun c hc o h t => ?_⟩
    rcases List.mem_append.mp hc with z | z
    · exact hx c z o h t
    · obtain ⟨u, hu, tu⟩ := a.lv c o h t
      exact hy c z u hu tu
  · exact b.fr c o (a.fr c o h n t) (a.ninA h n t) t
  · obtain ⟨u, hu, tu⟩ := a.lv c o h t
    exact b.lv c u hu tu
theorem Ext.same {ms : Ms} {H H' : Hp} (s : Same H H') : Ext ms ms H H' := ⟨⟨[], by simp, by simp⟩, rfl, rfl, fun _ _ h _ _ => s _ _ h, fun a o h t => ⟨o, s _ _ h, t⟩⟩
theorem Ext.new {ms : Ms} {H : Hp} {p : Addr} {o : HO} (h : H p = none) : Ext ms ms H (upd H p o) := .same (same_new h)
theorem Ext.add {ms : Ms} {H : Hp} {p : Addr} {o : HO} (h : H p = none) : Ext ms (ms.add p) H (upd H p o) :=
  ⟨⟨[p], rfl, fun a ha u e => by rw [List.mem_singleton.mp ha, h] at e; cases e⟩, rfl, rfl, (Ext.new (ms := ms) h).fr, (Ext.new (ms := ms) h).lv⟩
theorem Ext.set {ms : Ms} {H : Hp} {p : Addr} {o : HO} (h : p ∈ ms.a) (ho : NoTb o) : Ext ms ms H (upd H p o) :=
  ⟨⟨[], by simp, by simp⟩, rfl, rfl, fun a u e n _ => by rw [upd_ne (fun z => n (by rw [z]; exact h))]; exact e, fun a u e t => by
    by_cases z : a = p
    · exact ⟨o, by rw [z, upd_same], ho⟩
    · exact ⟨u, by rw [upd_ne z]; exact e, t⟩⟩
/-- what came later may be forgotten -/
theorem Ext.less {ms ms' : Ms} {H H' : Hp} (e : Ext ms ms' H H') : Ext ms ms H H' := ⟨⟨[], by simp, by simp⟩, rfl, rfl, e.fr, e.lv⟩
theorem notb_lst {xs : List V} : NoTb (.lst xs) := fun ps z => by cases z
theorem notb_dK {xs : List (Key × V)} : NoTb (.dK xs) := fun ps z => by cases z

/-! ### data in the heap -/
/-- (number, thing) and (text, thing): pairs that no dict() is made of -/
def pairlike : List PyData → Bool
  | [.int _, _] => true
  | [.str _, _] => true
  | _ => false
/-- a tuple, its object known to have no dict of its own; any tuple (of the written part: the former alone) -/
def TupC (K : PySem.W.Frag) (ms : Ms) (H : Hp) (a : Addr) (xs : List V) : Prop :=
  (∃ o : Obj, H a = some (.frz o (.tup xs)) ∧ o.dict = none ∧ a ∉ ms) ∨
    ∃ (o : Obj) (its : Array Value) (n : Nat), K.lookup a = some o ∧ o.dict = none ∧ o.cls = .type "tuple" ∧ o.data = .seq its n ∧ its.size ≤ sizeLine ∧ Vals xs its.toList
def TupA (K : PySem.W.Frag) (ms : Ms) (H : Hp) (b : Bool) (a : Addr) (xs : List V) : Prop := TupC K ms H a xs ∨ (b = true ∧ H a = some (.tup xs) ∧ a ∉ ms)
def LstA (ms : Ms) (H : Hp) (a : Addr) (xs : List V) : Prop := H a = some (.lst xs) ∧ a ∉ ms
mutual
inductive Dm (K : PySem.W.Frag) (ms : Ms) (H : Hp) : V → PyData → Prop
  | non : Dm K ms H .non .none
  | bl (b : Bool) : Dm K ms H (.bl b) (.bool b)
  | int (i : Int) : Dm K ms H (.int i) (.int i)
  | str (x : Str) : Dm K ms H (.str x) (.str x)
  | tup {a : Addr} {xs : List V} {ds : List PyData} : TupA K ms H (pairlike ds) a xs → DmAll K ms H xs ds → Dm K ms H (.ref a) (.tuple ds)
  | lst {a : Addr} {xs : List V} {ds : List PyData} : LstA ms H a xs → DmAll K ms H xs ds → Dm K ms H (.ref a) (.list ds)
inductive DmAll (K : PySem.W.Frag) (ms : Ms) (H : Hp) : List V → List PyData → Prop
  | nil : DmAll K ms H [] []
  | cons {v : V} {vs : List V} {d : PyData} {ds : List PyData} : Dm K ms H v d → DmAll K ms H vs ds → DmAll K ms H (v :: vs) (d :: ds)
end
section
variable {K : PySem.W.Frag} {ms ms' : Ms} {H H' : Hp}
theorem TupC.cln {a : Addr} {xs : List V} (h : TupC K ms H a xs) : Cln K H a xs := by
  rcases h with ⟨o, h, d, _⟩ | h
  · exact .inl ⟨o, h, d⟩
  · exact .inr h
theorem TupA.sq {b : Bool} {a : Addr} {xs : List V} (h : TupA K ms H b a xs) : SqT K H a xs := by
  rcases h with h | ⟨_, h, _⟩
  · exact h.cln.sq
  · exact .inl (.inl h)
theorem LstA.sq {a : Addr} {xs : List V} (h : LstA ms H a xs) : SqL K H a xs := .inl (.inl h.1)
/-- stays: what is not among ms -/
structure Keep (ms ms' : Ms) (H H' : Hp) : Prop where
  fr : ∀ a o, H a = some o → a ∉ ms → (∀ ps, o ≠ .tbl ps) → H' a = some o
  ni : ∀ a o, H a = some o → a ∉ ms → (∀ ps, o ≠ .tbl ps) → a ∉ ms'
theorem Ext.keep (e : Ext ms ms' H H') : Keep ms ms' H H' := ⟨fun a o h n t => e.fr a o h (fun z => n (.inl z)) t, fun _ _ h n t => e.nin h n t⟩
/-- fewer are known -/
theorem Keep.less {H : Hp} (h : ∀ a, a ∈ ms' → a ∈ ms) : Keep ms ms' H H := ⟨fun _ _ h _ _ => h, fun _ _ _ n _ z => n (h _ z)⟩
theorem TupA.keep {b : Bool} {a : Addr} {xs : List V} (h : TupA K ms H b a xs) (k : Keep ms ms' H H') : TupA K ms' H' b a xs := by
  rcases h with (⟨o, h, d, n⟩ | h) | ⟨e, h, n⟩
  · exact .inl (.inl ⟨o, k.fr _ _ h n (fun ps z => by cases z), d, k.ni _ _ h n (fun ps z => by cases z)⟩)
  · exact .inl (.inr h)
  · exact .inr ⟨e, k.fr _ _ h n (fun ps z => by cases z), k.ni _ _ h n (fun ps z => by cases z)⟩
theorem LstA.keep {a : Addr} {xs : List V} (h : LstA ms H a xs) (k : Keep ms ms' H H') : LstA ms' H' a xs := ⟨k.fr _ _ h.1 h.2 (fun ps z => by cases z), k.ni _ _ h.1 h.2 (fun ps z => by cases z)⟩
mutual
theorem dm_keep (k : Keep ms ms' H H') : ∀ (d : PyData) (v : V), Dm K ms H v d → Dm K ms' H' v d
  | .none, _, h => by cases h; exact .non
  | .bool _, _, h => by cases h; exact .bl _
  | .int _, _, h => by cases h; exact .int _
  | .str _, _, h => by cases h; exact .str _
  | .list ds, _, h => by
    cases h with
    | lst hs ha => exact .lst (hs.keep k) (dmAll_keep k ds _ ha)
  | .dict _, _, h => by cases h
  | .tuple ds, _, h => by
    cases h with
    | tup hs ha => exact .tup (hs.keep k) (dmAll_keep k ds _ ha)
theorem dmAll_keep (k : Keep ms ms' H H') : ∀ (ds : List PyData) (vs : List V), DmAll K ms H vs ds → DmAll K ms' H' vs ds
  | [], _, h => by cases h; exact .nil
  | d :: ds, _, h => by
    cases h with
    | cons h1 h2 => exact .cons (dm_keep k d _ h1) (dmAll_keep k ds _ h2)
end
mutual
theorem dm_dp : ∀ (d : PyData) (v : V), Dm K ms H v d → Dp K H v d
  | .none, _, h => by cases h; exact .non
  | .bool _, _, h => by cases h; exact .bl _
  | .int _, _, h => by cases h; exact .int _
  | .str _, _, h => by cases h; exact .str _
  | .list ds, _, h => by
    cases h with
    | lst hs ha => exact .lst hs.sq (dmAll_dp ds _ ha)
  | .dict _, _, h => by cases h
  | .tuple ds, _, h => by
    cases h with
    | tup hs ha => exact .tup hs.sq (dmAll_dp ds _ ha)
theorem dmAll_dp : ∀ (ds : List PyData) (vs : List V), DmAll K ms H vs ds → DpAll K H vs ds
  | [], _, h => by cases h; exact .nil
  | d :: ds, _, h => by
    cases h with
    | cons h1 h2 => exact .cons (dm_dp d _ h1) (dmAll_dp ds _ h2)
end
theorem Dm.keep {v : V} {d : PyData} (h : Dm K ms H v d) (k : Keep ms ms' H H') : Dm K ms' H' v d := dm_keep k d v h
theorem Dm.dp {v : V} {d : PyData} (h : Dm K ms H v d) : Dp K H v d := dm_dp d v h
theorem DmAll.keep {vs : List V} {ds : List PyData} (h : DmAll K ms H vs ds) (k : Keep ms ms' H H') : DmAll K ms' H' vs ds := dmAll_keep k ds vs h
theorem DmAll.dp {vs : List V} {ds : List PyData} (h : DmAll K ms H vs ds) : DpAll K H vs ds := dmAll_dp ds vs h
theorem dma_len {vs : List V} {ds : List PyData} (h : DmAll K ms H vs ds) : vs.length = ds.length := dpa_len h.dp
theorem dma_get : ∀ {vs : List V} {ds : List PyData} {i : Nat} {d : PyData}, DmAll K ms H vs ds → ds[i]? = some d → ∃ v, vs[i]? = some v ∧ Dm K ms H v d
  | _, _, _, _, .nil, e => by simp at e
  | _, _, 0, _, .cons r _, e => by simp at e; subst e; exact ⟨_, rfl, r⟩
  | _, _, i + 1, d, .cons _ t, e => by
    obtain ⟨v, h1, h2⟩ := dma_get (i := i) (d := d) t (by simpa using e)
    exact ⟨v, by simpa using h1, h2⟩
theorem dma_app : ∀ {vs ws : List V} {ds es : List PyData}, DmAll K ms H vs ds → DmAll K ms H ws es → DmAll K ms H (vs ++ ws) (ds ++ es)
  | _, _, _, _, .nil, h => h
  | _, _, _, _, .cons a t, h => .cons a (dma_app t h)
theorem dma_drop : ∀ {vs : List V} {ds : List PyData} (n : Nat), DmAll K ms H vs ds → DmAll K ms H (vs.drop n) (ds.drop n)
  | _, _, 0, h => h
  | _, _, _ + 1, .nil => .nil
  | _, _, n + 1, .cons _ t => dma_drop n t
theorem dma_take : ∀ {vs : List V} {ds : List PyData} (n : Nat), DmAll K ms H vs ds → DmAll K ms H (vs.take n) (ds.take n)
  | _, _, 0, _ => .nil
  | _, _, _ + 1, .nil => .nil
  | _, _, n + 1, .cons a t => .cons a (dma_take n t)
theorem Dm.tupE {v : V} {ds : List PyData} (h : Dm K ms H v (.tuple ds)) : ∃ a vs, v = .ref a ∧ TupA K ms H (pairlike ds) a vs ∧ DmAll K ms H vs ds := by
  cases h with
  | tup hs ha => exact ⟨_, _, rfl, hs, ha⟩
theorem Dm.lstE {v : V} {ds : List PyData} (h : Dm K ms H v (.list ds)) : ∃ a vs, v = .ref a ∧ LstA ms H a vs ∧ DmAll K ms H vs ds := by
  cases h with
  | lst hs ha => exact ⟨_, _, rfl, hs, ha⟩
/-- a new tuple, known -/
theorem dm_newT {p : Addr} {o : Obj} {vs : List V} {ds : List PyData} (h : DmAll K ms H vs ds) (hp : H p = none) (hm : p ∉ ms) (ho : o.dict = none) : Dm K ms (upd H p (.frz o (.tup vs))) (.ref p) (.tuple ds) :=
  .tup (.inl (.inl ⟨o, upd_same, ho, hm⟩)) (h.keep (Ext.new hp).keep)
theorem dm_newL {p : Addr} {vs : List V} {ds : List PyData} (h : DmAll K ms H vs ds) (hp : H p = none) (hm : p ∉ ms) : Dm K ms (upd H p (.lst vs)) (.ref p) (.list ds) :=
  .lst ⟨upd_same, hm⟩ (h.keep (Ext.new hp).keep)

/-! ### values, slots, the store in the heap -/
def RepW (K : PySem.W.Frag) (ms : Ms) (H : Hp) (v : V) : Wv → Prop
  | .d x => Dm K ms H v x
  | .r i => ∃ a, ms.a[i]? = some a ∧ v = .ref a
  | .t n => v = .ty n
  | .s ns => ∃ a, v = .ref a ∧ ((∃ o, H a = some (.frz o (.lst (ns.map V.int))) ∧ a ∉ ms) ∨
    ∃ (o : Obj) (its : Array Value) (n : Nat), K.lookup a = some o ∧ o.cls = .type "list" ∧ o.dict = none ∧ o.data = .seq its n ∧ its.size ≤ sizeLine ∧ Vals (ns.map V.int) its.toList)
abbrev RepAll (K : PySem.W.Frag) (ms : Ms) (H : Hp) : List V → List Wv → Prop := Paired (RepW K ms H)
/-- the numbers that are known stay so -/
structure Keeps (ms ms' : Ms) (H H' : Hp) : Prop extends Keep ms ms' H H' where
  nu : ∀ (i : Nat) (a : Addr), ms.a[i]? = some a → ms'.a[i]? = some a
  pp : ∀ q ∈ ms.p, q ∈ ms'.p
theorem Ext.keeps (e : Ext ms ms' H H') : Keeps ms ms' H H' := ⟨e.keep, fun i a h => by
  obtain ⟨more, em, _⟩ := e.pre
  rw [em, List.getElem?_append_left (List.getElem?_eq_some_iff.mp h).1]
  exact h, fun q h => by rw [e.hp]; exact h⟩
/-- an address is held back: it was none; its content turns; it is let go -/
theorem keeps_hold {D : Addr} {o : HO} (h : H D = none) : Keeps ms (ms.hold D) H (upd H D o) :=
  ⟨⟨fun a u e _ _ => (same_new h) _ _ e, fun a u e n _ z => by
    rcases z with z | z
    · exact n (.inl z)
    · rcases List.mem_cons.mp z with z | z
      · rw [z, h] at e
        cases e
      · exact n (.inr z)⟩, fun _ _ h => h, fun _ h => h⟩
theorem keeps_held {D : Addr} {o : HO} (h : D ∈ ms) : Keeps ms ms H (upd H D o) :=
  ⟨⟨fun a u e n _ => by rw [upd_ne (fun z => n (by rw [z]; exact h))]; exact e, fun _ _ _ n _ => n⟩, fun _ _ h => h, fun _ h => h⟩
theorem keeps_free {D : Addr} : Keeps (ms.hold D) ms H H :=
  ⟨⟨fun _ _ e _ _ => e, fun a u e n _ z => n (by
    rcases z with z | z
    · exact .inl z
    · exact .inr (List.mem_cons_of_mem _ z))⟩, fun _ _ h => h, fun _ h => h⟩
theorem RepW.keep {v : V} {w : Wv} (h : RepW K ms H v w) (k : Keeps ms ms' H H') : RepW K ms' H' v w := by
  cases w with
  | d x => exact Dm.keep h k.toKeep
  | r i =>
    obtain ⟨a, h1, h2⟩ := h
    exact ⟨a, k.nu _ _ h1, h2⟩
  | t n => exact h
  | s ns =>
    obtain ⟨a, h1, ⟨o, h2, h3⟩ | h2⟩ := h
    · exact ⟨a, h1, .inl ⟨o, k.fr _ _ h2 h3 (fun ps z => by cases z), k.ni _ _ h2 h3 (fun ps z => by cases z)⟩⟩
    · exact ⟨a, h1, .inr h2⟩
theorem RepAll.keep : ∀ {vs : List V} {ws : List Wv}, RepAll K ms H vs ws → Keeps ms ms' H H' → RepAll K ms' H' vs ws
  | _, _, .nil, _ => .nil
  | _, _, .cons r t, k => .cons (RepW.keep r k) (RepAll.keep t k)
theorem RepW.ext {v : V} {w : Wv} (h : RepW K ms H v w) (e : Ext ms ms' H H') : RepW K ms' H' v w := h.keep e.keeps
theorem RepAll.ext {vs : List V} {ws : List Wv} (h : RepAll K ms H vs ws) (e : Ext ms ms' H H') : RepAll K ms' H' vs ws := h.keep e.keeps
theorem repall_get : ∀ {vs : List V} {ws : List Wv} {i : Nat} {w : Wv}, RepAll K ms H vs ws → ws[i]? = some w → ∃ v, vs[i]? = some v ∧ RepW K ms H v w
  | _, _, _, _, .nil, e => by simp at e
  | _, _, 0, _, .cons r _, e => by simp at e; subst e; exact ⟨_, rfl, r⟩
  | _, _, i + 1, w, .cons _ t, e => by
    obtain ⟨v, h1, h2⟩ := repall_get (i := i) (w := w) t (by simpa using e)
    exact ⟨v, by simpa using h1, h2⟩
theorem repall_len {vs : List V} {ws : List Wv} (h : RepAll K ms H vs ws) : vs.length = ws.length := Paired.length h
theorem repall_app : ∀ {vs us : List V} {ws xs : List Wv}, RepAll K ms H vs ws → RepAll K ms H us xs → RepAll K ms H (vs ++ us) (ws ++ xs)
  | _, _, _, _, .nil, h => h
  | _, _, _, _, .cons a t, h => .cons a (repall_app t h)
theorem repall_set {v : V} {w : Wv} (r : RepW K ms H v w) : ∀ {vs : List V} {ws : List Wv} (i : Nat), RepAll K ms H vs ws → RepAll K ms H (vs.set i v) (ws.set i w)
  | _, _, _, .nil => .nil
  | _, _, 0, .cons _ t => .cons r t
  | _, _, i + 1, .cons q t => .cons q (repall_set r i t)
theorem repall_erase : ∀ {vs : List V} {ws : List Wv} (i : Nat), RepAll K ms H vs ws → RepAll K ms H (vs.eraseIdx i) (ws.eraseIdx i)
  | _, _, _, .nil => .nil
  | _, _, 0, .cons _ t => t
  | _, _, i + 1, .cons r t => .cons r (repall_erase i t)
/-- data, all of it -/
def datas : List Wv → Option (List PyData)
  | [] => some []
  | .d x :: ws => (datas ws).map (x :: ·)
  | _ :: _ => none
theorem datas_rep : ∀ {ws : List Wv} {ds : List PyData} {vs : List V}, datas ws = some ds → RepAll K ms H vs ws → DmAll K ms H vs ds
  | [], ds, _, e, h => by
    cases h
    simp only [datas, Option.some.injEq] at e
    subst e
    exact .nil
  | .d x :: ws, ds, _, e, h => by
    cases h with
    | cons r t =>
      cases q : datas ws with
      | none => simp [datas, q] at e
      | some es =>
        simp only [datas, q, Option.map_some, Option.some.injEq] at e
        subst e
        exact .cons r (datas_rep q t)
  | .r i :: ws, ds, _, e, h => by simp [datas] at e
  | .t n :: ws, ds, _, e, h => by simp [datas] at e
  | .s n :: ws, ds, _, e, h => by simp [datas] at e
@[simp] theorem datas_map (ds : List PyData) : datas (ds.map Wv.d) = some ds := by
  induction ds with
  | nil => rfl
  | cons d ds ih => simp [datas, ih]
theorem rep_datas {vs : List V} {ds : List PyData} (h : DmAll K ms H vs ds) : RepAll K ms H vs (ds.map Wv.d) := by
  induction ds generalizing vs with
  | nil => cases h; exact .nil
  | cons d ds ih =>
    cases h with
    | cons a t => exact .cons a (ih t)

def ObR (K : PySem.W.Frag) (ms : Ms) (H : Hp) (a : Addr) : Ob → Prop
  | .lst ws => ∃ vs, H a = some (.lst vs) ∧ RepAll K ms H vs ws
  | .dct kvs => ∃ us, H a = some (.dK us) ∧ Paired (fun (p : Key × V) (q : Key × Wv) => p.1 = q.1 ∧ RepW K ms H p.2 q.2) us kvs
  | .lk kvs => ∃ od us, H a = some (.frz od (.dK us)) ∧ (a, HO.frz od (.dK us)) ∈ ms.p ∧ Paired (fun (p : Key × V) (q : Key × Wv) => p.1 = q.1 ∧ RepW K ms H p.2 q.2) us kvs
theorem kvs_keep : ∀ {us : List (Key × V)} {kvs : List (Key × Wv)}, Paired (fun (p : Key × V) (q : Key × Wv) => p.1 = q.1 ∧ RepW K ms H p.2 q.2) us kvs → Keeps ms ms' H H' →
    Paired (fun (p : Key × V) (q : Key × Wv) => p.1 = q.1 ∧ RepW K ms' H' p.2 q.2) us kvs
  | _, _, .nil, _ => .nil
  | _, _, .cons r t, k => .cons ⟨r.1, r.2.keep k⟩ (kvs_keep t k)
/-- the object at a stays, the others' numbers, too -/
theorem ObR.keep {a : Addr} {o : Ob} (h : ObR K ms H a o) (k : Keeps ms ms' H H') (s : ∀ u, H a = some u → (∀ ps, u ≠ .tbl ps) → H' a = some u) : ObR K ms' H' a o := by
  cases o with
  | lst ws =>
    obtain ⟨vs, e, r⟩ := h
    exact ⟨vs, s _ e (fun ps z => by cases z), r.keep k⟩
  | dct kvs =>
    obtain ⟨us, e, r⟩ := h
    exact ⟨us, s _ e (fun ps z => by cases z), kvs_keep r k⟩
  | lk kvs =>
    obtain ⟨od, us, e, hp, r⟩ := h
    exact ⟨od, us, s _ e (fun ps z => by cases z), k.pp _ hp, kvs_keep r k⟩
theorem ObR.here {a : Addr} {o : Ob} (h : ObR K ms H a o) : ∃ u, H a = some u ∧ (∀ ps, u ≠ .tbl ps) ∧ (∀ f, u ≠ .ext f) := by
  cases o with
  | lst ws =>
    obtain ⟨vs, e, _⟩ := h
    exact ⟨_, e, fun ps z => (by cases z), fun f z => (by cases z)⟩
  | dct kvs =>
    obtain ⟨us, e, _⟩ := h
    exact ⟨_, e, fun ps z => (by cases z), fun f z => (by cases z)⟩
  | lk kvs =>
    obtain ⟨od, us, e, _⟩ := h
    exact ⟨_, e, fun ps z => (by cases z), fun f z => (by cases z)⟩

structure RelM (K : PySem.W.Frag) (T : List (Addr × Str)) (ms : Ms) (M : Sto) (H : Hp) : Prop where
  len : ms.a.length = M.length
  nd : (ms.a ++ ms.r).Nodup
  ob : ∀ (i : Nat) (a : Addr) (o : Ob), ms.a[i]? = some a → M[i]? = some o → ObR K ms H a o
  rv : ∀ a ∈ ms.r, ∃ o, H a = some o ∧ NoTb o
  tb : Tabs T H
  pn : ∀ q ∈ ms.p, H q.1 = some q.2 ∧ ∃ od u, q.2 = .frz od u
theorem tabs_set {T : List (Addr × Str)} {H : Hp} {p : Addr} {u u' : HO} (t : Tabs T H) (h : H p = some u) (n1 : ∀ ps, u ≠ .tbl ps) (n2 : ∀ f, u ≠ .ext f) : Tabs T (upd H p u') := fun q hq => by
  obtain ⟨ps, h1, h2, h3⟩ := t q hq
  refine ⟨ps, ?_, h2, fun pos cv hc => ?_⟩
  · rw [upd_ne]
    · exact h1
    · intro z
      rw [z, h] at h1
      exact n1 _ (Option.some.inj h1)
  · obtain ⟨c, e1, e2⟩ := h3 pos cv hc
    refine ⟨c, e1, ?_⟩
    rw [upd_ne]
    · exact e2
    · intro z
      rw [z, h] at e2
      exact n2 _ (Option.some.inj e2)
section
variable {T : List (Addr × Str)} {M : Sto}
theorem RelM.at {i : Nat} {o : Ob} (R : RelM K T ms M H) (h : M[i]? = some o) : ∃ a, ms.a[i]? = some a ∧ ObR K ms H a o := by
  have hi : i < ms.a.length := by
    rw [R.len]
    exact (List.getElem?_eq_some_iff.mp h).1
  exact ⟨ms.a[i], List.getElem?_eq_getElem hi, R.ob i _ o (List.getElem?_eq_getElem hi) h⟩
theorem RelM.live (R : RelM K T ms M H) : ∀ a ∈ ms.a, ∃ u, H a = some u ∧ (∀ ps, u ≠ .tbl ps) ∧ (∀ f, u ≠ .ext f) := fun a ha => by
  obtain ⟨i, hi, e⟩ := List.mem_iff_getElem.mp ha
  have e1 : ms.a[i]? = some a := by rw [List.getElem?_eq_getElem hi, e]
  have h2 : i < M.length := by rw [← R.len]; exact hi
  exact (R.ob i a M[i] e1 (List.getElem?_eq_getElem h2)).here
theorem RelM.fresh (R : RelM K T ms M H) {p : Addr} (h : H p = none) : p ∉ ms := fun z => by
  rcases z with z | z
  · obtain ⟨u, e, _⟩ := R.live p z
    rw [h] at e
    cases e
  · obtain ⟨u, e, _⟩ := R.rv p z
    rw [h] at e
    cases e
theorem RelM.same (R : RelM K T ms M H) (s : Same H H') : RelM K T ms M H' :=
  ⟨R.len, R.nd, fun i a o h1 h2 => (R.ob i a o h1 h2).keep (Ext.same s).keeps fun u e _ => s _ _ e, fun a h => (let ⟨o, e, t⟩ := R.rv a h; ⟨o, s _ _ e, t⟩), R.tb.ext s, fun q h => ⟨s _ _ (R.pn q h).1, (R.pn q h).2⟩⟩
theorem RelM.new (R : RelM K T ms M H) {p : Addr} {o : HO} (h : H p = none) : RelM K T ms M (upd H p o) := R.same (same_new h)
theorem RelM.add (R : RelM K T ms M H) {p : Addr} {o : HO} {b : Ob} (h : H p = none) (hb : ObR K (ms.add p) (upd H p o) p b) : RelM K T (ms.add p) (M ++ [b]) (upd H p o) := by
  have e := Ext.add (ms := ms) (o := o) h
  have nf := R.fresh h
  refine ⟨by show (ms.a ++ [p]).length = _; rw [List.length_append, List.length_append, R.len]; rfl, ?_, fun i a u h1 h2 => ?_, fun a ha => (let ⟨o, e1, t⟩ := R.rv a ha; e.lv a o e1 t), R.tb.ext (same_new h), fun q hq => ⟨same_new h _ _ (R.pn q hq).1, (R.pn q hq).2⟩⟩
  · show ((ms.a ++ [p]) ++ ms.r).Nodup
    rw [List.append_assoc]
    have nd := List.nodup_append.mp R.nd
    refine List.nodup_append.mpr ⟨nd.1, List.nodup_cons.mpr ⟨fun z => nf (.inr z), nd.2.1⟩, fun a ha b hb => ?_⟩
    rcases List.mem_cons.mp hb with z | z
    · rw [z]
      intro q
      exact nf (.inl (q ▸ ha))
    · exact nd.2.2 a ha b z
  · by_cases hi : i < ms.a.length
    · have h1 : (ms.a ++ [p])[i]? = some a := h1
      rw [List.getElem?_append_left hi] at h1
      rw [List.getElem?_append_left (by rw [← R.len]; exact hi)] at h2
      exact (R.ob i a u h1 h2).keep e.keeps fun x ex _ => same_new h _ _ ex
    · have h1 : (ms.a ++ [p])[i]? = some a := h1
      rw [List.getElem?_append_right (by omega)] at h1
      rw [List.getElem?_append_right (by rw [← R.len]; omega)] at h2
      rw [← R.len] at h2
      generalize i - ms.a.length = j at h1 h2
      cases j with
      | zero =>
        cases h1
        cases h2
        exact hb
      | succ j => simp at h1
/-- what may be written -/
def Wr : Option HO → Prop
  | some (.lst _) => True
  | some (.dK _) => True
  | _ => False
theorem RelM.pn_set (R : RelM K T ms M H) {p : Addr} {o : HO} (h : Wr (H p)) : ∀ q ∈ ms.p, upd H p o q.1 = some q.2 ∧ ∃ od u, q.2 = .frz od u := fun q hq => by
  obtain ⟨e, od, u, z⟩ := R.pn q hq
  refine ⟨?_, od, u, z⟩
  rw [upd_ne]
  · exact e
  · intro w
    rw [← w, e, z] at h
    exact h
theorem RelM.set (R : RelM K T ms M H) {i : Nat} {p : Addr} {o : HO} {b : Ob} (h : ms.a[i]? = some p) (hw : Wr (H p)) (hb : ObR K ms (upd H p o) p b) : RelM K T ms (M.set i b) (upd H p o) := by
  have hm : p ∈ ms.a := List.mem_of_getElem? h
  obtain ⟨u, hu, n1, n2⟩ := R.live p hm
  have no : NoTb o := by
    obtain ⟨u', e', n', _⟩ := hb.here
    rw [upd_same] at e'
    cases e'
    exact n'
  have e : Ext ms ms H (upd H p o) := Ext.set hm no
  refine ⟨by rw [List.length_set]; exact R.len, R.nd, fun j a x h1 h2 => ?_, fun a ha => (let ⟨o, e1, t⟩ := R.rv a ha; e.lv a o e1 t), tabs_set R.tb hu n1 n2, R.pn_set hw⟩
  by_cases hij : i = j
  · subst hij
    rw [h] at h1
    cases h1
    have hi : i < M.length := by
      rw [← R.len]
      exact (List.getElem?_eq_some_iff.mp h).1
    rw [List.getElem?_set_self hi] at h2
    cases h2
    exact hb
  · rw [List.getElem?_set_ne hij] at h2
    have na : a ≠ p := by
      intro z
      subst z
      have l1 := (List.getElem?_eq_some_iff.mp h).1
      exact hij ((List.getElem?_inj l1 (List.nodup_append.mp R.nd).1).mp (h.trans h1.symm))
    refine (R.ob j a x h1 h2).keep e.keeps fun y ey _ => ?_
    rw [upd_ne na]
    exact ey
/-- an address is held back -/
theorem RelM.hold (R : RelM K T ms M H) {D : Addr} {xs : List V} (h : H D = none) : RelM K T (ms.hold D) M (upd H D (.lst xs)) := by
  have nf := R.fresh h
  have nd := List.nodup_append.mp R.nd
  refine ⟨R.len, ?_, fun i a o h1 h2 => (R.ob i a o h1 h2).keep (keeps_hold h) fun u e _ => same_new h _ _ e, fun a ha => ?_, R.tb.ext (same_new h), fun q hq => ⟨same_new h _ _ (R.pn q hq).1, (R.pn q hq).2⟩⟩
  · show (ms.a ++ D :: ms.r).Nodup
    refine List.nodup_append.mpr ⟨nd.1, List.nodup_cons.mpr ⟨fun z => nf (.inr z), nd.2.1⟩, fun a ha b hb => ?_⟩
    rcases List.mem_cons.mp hb with z | z
    · rw [z]
      intro q
      exact nf (.inl (q ▸ ha))
    · exact nd.2.2 a ha b z
  · rcases List.mem_cons.mp ha with z | z
    · exact ⟨_, by rw [z, upd_same], notb_lst⟩
    · obtain ⟨o, e1, t⟩ := R.rv a z
      exact (Ext.new (ms := ms) h).lv a o e1 t
theorem RelM.held (R : RelM K T ms M H) {D : Addr} {xs ys : List V} (h : H D = some (.lst xs)) (hd : D ∈ ms.r) : RelM K T ms M (upd H D (.lst ys)) := by
  have nd := List.nodup_append.mp R.nd
  refine ⟨R.len, R.nd, fun i a o h1 h2 => (R.ob i a o h1 h2).keep (keeps_held (.inr hd)) fun u e _ => ?_, fun a ha => ?_, tabs_set R.tb h (fun ps z => by cases z) (fun f z => by cases z), R.pn_set (by rw [h]; trivial)⟩
  · rw [upd_ne]
    · exact e
    · intro z
      exact nd.2.2 a (List.mem_of_getElem? h1) D hd z
  · by_cases q : a = D
    · exact ⟨_, by rw [q, upd_same], notb_lst⟩
    · obtain ⟨o, e1, t⟩ := R.rv a ha
      exact ⟨o, by rw [upd_ne q]; exact e1, t⟩
theorem RelM.free {D : Addr} (R : RelM K T (ms.hold D) M H) : RelM K T ms M H ∧ D ∉ ms := by
  have nd := List.nodup_append.mp R.nd
  have ndr := List.nodup_cons.mp nd.2.1
  refine ⟨⟨R.len, List.nodup_append.mpr ⟨nd.1, ndr.2, fun a ha b hb => nd.2.2 a ha b (List.mem_cons_of_mem _ hb)⟩, fun i a o h1 h2 => (R.ob i a o h1 h2).keep keeps_free fun u e _ => e, fun a ha => R.rv a (List.mem_cons_of_mem _ ha), R.tb, R.pn⟩, fun z => ?_⟩
  rcases z with z | z
  · exact nd.2.2 D z D List.mem_cons_self rfl
  · exact ndr.1 z
end
end
/-- slots: what is known of them -/
def SloR (K : PySem.W.Frag) (ms : Ms) (H : Hp) : Slo → L2.St → Prop := Paired fun (w : Option Wv) (v : Option V) => ∀ x, w = some x → ∃ u, v = some u ∧ RepW K ms H u x
section
variable {K : PySem.W.Frag} {ms ms' : Ms} {H H' : Hp}
theorem SloR.keep : ∀ {sd : Slo} {σ : L2.St}, SloR K ms H sd σ → Keeps ms ms' H H' → SloR K ms' H' sd σ
  | _, _, .nil, _ => .nil
  | _, _, .cons r t, k => .cons (fun x e => by
      obtain ⟨u, h1, h2⟩ := r x e
      exact ⟨u, h1, h2.keep k⟩) (SloR.keep t k)
theorem SloR.ext {sd : Slo} {σ : L2.St} (h : SloR K ms H sd σ) (e : Ext ms ms' H H') : SloR K ms' H' sd σ := h.keep e.keeps
theorem SloR.get : ∀ {sd : Slo} {σ : L2.St} {i : Nat} {w : Wv}, SloR K ms H sd σ → sd[i]? = some (some w) → ∃ v, σ[i]? = some (some v) ∧ RepW K ms H v w
  | _, _, _, _, .nil, e => by simp at e
  | _, _, 0, _, .cons r _, e => by
    simp at e
    obtain ⟨u, h1, h2⟩ := r _ e
    exact ⟨u, by simp [h1], h2⟩
  | _, _, i + 1, w, .cons _ t, e => by
    obtain ⟨v, h1, h2⟩ := SloR.get (i := i) (w := w) t (by simpa using e)
    exact ⟨v, by simpa using h1, h2⟩
theorem SloR.set {v : V} {w : Wv} (r : RepW K ms H v w) : ∀ {sd : Slo} {σ : L2.St} (i : Nat), SloR K ms H sd σ → SloR K ms H (sd.set i (some w)) (σ.set i (some v))
  | _, _, _, .nil => .nil
  | _, _, 0, .cons _ t => .cons (fun x e => ⟨v, rfl, by cases e; exact r⟩) t
  | _, _, i + 1, .cons q t => .cons q (SloR.set r i t)
theorem SloR.start : ∀ {vs : List V} {ws : List Wv} (n : Nat), RepAll K ms H vs ws → SloR K ms H (ws.map some ++ List.replicate n none) (vs.map some ++ List.replicate n none)
  | _, _, n, .nil => by
    induction n with
    | zero => exact .nil
    | succ n ih => exact .cons (fun x e => by cases e) ih
  | _, _, n, .cons r t => .cons (fun x e => ⟨_, rfl, by cases e; exact r⟩) (SloR.start n t)
end
end Fu

set_option Elab.async false
set_option linter.all false
set_option maxRecDepth 100000
set_option maxHeartbeats 4000000
/-! The functional reading, II: expressions. -/
namespace Fu
open PySem PySem.Spec PyProof.Rows L2 Dat LamX
abbrev Fx := Slo → Sto → Res Wv
abbrev Fa := Slo → Sto → Res (List Wv)
abbrev Ft := Slo → Sto → Res Bool
/-- what is wanted, from a result on -/
def Wp {α β : Type} (K : PySem.W.Frag) (T : List (Addr × Str)) (ms : Ms) (H : Hp) (rep : Ms → Hp → β → α → Prop) (r : Res α) (Q : β → Hp → Prop) : Prop :=
  r.on fun w M' => ∀ ms' H' v, Ext ms ms' H H' → RelM K T ms' M' H' → rep ms' H' v w → Q v H'
abbrev rB : Ms → Hp → Bool → Bool → Prop := fun _ _ a b => a = b
def tF (K : PySem.W.Frag) (T : List (Addr × Str)) (f : Fx) : TE := fun σ H Q => ∃ ms sd M, RelM K T ms M H ∧ SloR K ms H sd σ ∧ Wp K T ms H (RepW K) (f sd M) Q
def tA (K : PySem.W.Frag) (T : List (Addr × Str)) (f : Fa) : TA := fun σ H Q => ∃ ms sd M, RelM K T ms M H ∧ SloR K ms H sd σ ∧ Wp K T ms H (RepAll K) (f sd M) Q
def tT (K : PySem.W.Frag) (T : List (Addr × Str)) (f : Ft) : TT := fun σ H Q => ∃ ms sd M, RelM K T ms M H ∧ SloR K ms H sd σ ∧ Wp K T ms H rB (f sd M) Q

theorem _root_.L2.PE.weak {X : Cx} {e : Expr} {t t' : TE} (h : PE X e t) (w : ∀ σ H Q, t' σ H Q → t σ H Q) : PE X e t' := ⟨fun pins s σ H Q I q => h.run pins s σ H Q I (w σ H Q q)⟩
theorem _root_.L2.PT.weak {X : Cx} {e : Expr} {t t' : TT} (h : PT X e t) (w : ∀ σ H Q, t' σ H Q → t σ H Q) : PT X e t' := ⟨fun pins s σ H Q I q => h.run pins s σ H Q I (w σ H Q q)⟩
theorem _root_.L2.PW.weak {X : Cx} {e : Expr} {t t' : TT} (h : PW X e t) (w : ∀ σ H Q, t' σ H Q → t σ H Q) : PW X e t' := ⟨fun wh pins s σ H Q I q => h.run wh pins s σ H Q I (w σ H Q q)⟩
theorem _root_.L2.PA.weak {X : Cx} {es : List Expr} {t t' : TA} (h : PA X es t) (w : ∀ σ H Q, t' σ H Q → t σ H Q) : PA X es t' := ⟨fun pos pins s σ H Q I q => h.run pos pins s σ H Q I (w σ H Q q)⟩

section
variable {K : PySem.W.Frag} {T : List (Addr × Str)} {ms ms' : Ms} {H H' : Hp} {M M' : Sto} {sd : Slo} {σ : L2.St}
theorem Wp.here {α β : Type} {rep : Ms → Hp → β → α → Prop} {w : α} {v : β} {Q : β → Hp → Prop} (h : Wp K T ms H rep (.ok w M) Q) (R : RelM K T ms M H) (r : rep ms H v w) : Q v H := h ms H v (.refl _ _) R r
theorem Wp.go {α β : Type} {rep : Ms → Hp → β → α → Prop} {r : Res α} {Q : β → Hp → Prop} (h : Wp K T ms H rep r Q) (e : Ext ms ms' H H') : Wp K T ms' H' rep r Q :=
  on_mono h fun w M1 _ q m2 H2 v e2 R2 r2 => q m2 H2 v (e.trans e2) R2 r2
theorem Wp.of {α β : Type} {rep : Ms → Hp → β → α → Prop} {r : Res α} {Q : β → Hp → Prop} (h : Wp K T ms H rep r Q) : ∃ w M', r = .ok w M' ∧ ∀ ms' H' v, Ext ms ms' H H' → RelM K T ms' M' H' → rep ms' H' v w → Q v H' := by
  cases r with
  | ok a M => exact ⟨a, M, rfl, h⟩
  | ex x M => exact h.elim
  | bad => exact h.elim
/-- go on behind a part -/
theorem tF_use {α β : Type} {rep : Ms → Hp → β → α → Prop} {f : Fx} {k : Wv → Sto → Res α} {P : β → Hp → Prop} {Q : VK} (R : RelM K T ms M H) (S : SloR K ms H sd σ) (h : Wp K T ms H rep ((f sd M).bind k) P)
    (g : ∀ w M1 m1 H1 v, Wp K T m1 H1 rep (k w M1) P → Ext ms m1 H H1 → RelM K T m1 M1 H1 → SloR K m1 H1 sd σ → RepW K m1 H1 v w → Q v H1) : tF K T f σ H Q :=
  ⟨ms, sd, M, R, S, on_mono (on_bind h) fun w M1 _ q m1 H1 v e1 R1 r1 => g w M1 m1 H1 v (Wp.go (r := k w M1) q e1) e1 R1 (S.ext e1) r1⟩
theorem tA_use {α β : Type} {rep : Ms → Hp → β → α → Prop} {f : Fa} {k : List Wv → Sto → Res α} {P : β → Hp → Prop} {Q : List V → Hp → Prop} (R : RelM K T ms M H) (S : SloR K ms H sd σ) (h : Wp K T ms H rep ((f sd M).bind k) P)
    (g : ∀ w M1 m1 H1 v, Wp K T m1 H1 rep (k w M1) P → Ext ms m1 H H1 → RelM K T m1 M1 H1 → SloR K m1 H1 sd σ → RepAll K m1 H1 v w → Q v H1) : tA K T f σ H Q :=
  ⟨ms, sd, M, R, S, on_mono (on_bind h) fun w M1 _ q m1 H1 v e1 R1 r1 => g w M1 m1 H1 v (Wp.go (r := k w M1) q e1) e1 R1 (S.ext e1) r1⟩
theorem tT_use {α β : Type} {rep : Ms → Hp → β → α → Prop} {f : Ft} {k : Bool → Sto → Res α} {P : β → Hp → Prop} {Q : Bool → Hp → Prop} (R : RelM K T ms M H) (S : SloR K ms H sd σ) (h : Wp K T ms H rep ((f sd M).bind k) P)
    (g : ∀ w M1 m1 H1, Wp K T m1 H1 rep (k w M1) P → Ext ms m1 H H1 → RelM K T m1 M1 H1 → SloR K m1 H1 sd σ → Q w H1) : tT K T f σ H Q :=
  ⟨ms, sd, M, R, S, on_mono (on_bind h) fun w M1 _ q m1 H1 v e1 R1 r1 => by
    cases r1
    exact g w M1 m1 H1 (Wp.go (r := k w M1) q e1) e1 R1 (S.ext e1)⟩
end

/-! ### names, constants -/
def fPv (i : Nat) : Fx := fun sd M => match sd[i]? with
  | some (some w) => .ok w M
  | _ => .bad
def fC (w : Wv) : Fx := fun _ M => .ok w M
section
variable {X : Cx} {K : PySem.W.Frag} {T : List (Addr × Str)} {pos : Pos}
theorem fe_pv {i : Nat} {x : Str} (hN : X.N[i]? = some x) (hv : Vis X.env.scope x) (hd : (x == ("__debug__" : Str)) = false := by decide) (hcd : (x == ("__classdict__" : Str)) = false := by decide) : PE X (.Name x pos) (tF K T (fPv i)) := by
  refine (pe_var hN hv hd hcd).weak fun σ H Q ⟨ms, sd, M, R, S, h⟩ => ?_
  unfold fPv at h
  split at h
  · rename_i w e
    obtain ⟨v, e1, r⟩ := S.get e
    exact ⟨v, e1, h.here R r⟩
  · exact h.elim
theorem fe_int {i j} : PE X (.Constant (.int i) j pos) (tF K T (fC (.d (.int i)))) := pe_int.weak fun σ H Q ⟨ms, sd, M, R, S, h⟩ => h.here R (show RepW K ms H (.int i) (.d (.int i)) from Dm.int i)
theorem fe_bl {b j} : PE X (.Constant (.bool b) j pos) (tF K T (fC (.d (.bool b)))) := pe_bl.weak fun σ H Q ⟨ms, sd, M, R, S, h⟩ => h.here R (show RepW K ms H (.bl b) (.d (.bool b)) from Dm.bl b)
theorem fe_non {j} : PE X (.Constant .none j pos) (tF K T (fC (.d .none))) := pe_non.weak fun σ H Q ⟨ms, sd, M, R, S, h⟩ => h.here R (show RepW K ms H .non (.d .none) from Dm.non)
theorem fe_str {x j} : PE X (.Constant (.str x) j pos) (tF K T (fC (.d (.str x)))) := pe_str.weak fun σ H Q ⟨ms, sd, M, R, S, h⟩ => h.here R (show RepW K ms H (.str x) (.d (.str x)) from Dm.str x)
theorem fe_ty {x : Str} {n : String} (hg : Gl X x) (hm : X.mg x = none) (hv : bootBuiltins x = some (.type n)) (hn : x ≠ "__name__" := by decide) (hd : (x == ("__debug__" : Str)) = false := by decide) : PE X (.Name x pos) (tF K T (fC (.t n))) :=
  (pe_bltn (v := .ty n) hg hm hv rfl hn hd).weak fun σ H Q ⟨ms, sd, M, R, S, h⟩ => h.here R (show RepW K ms H (.ty n) (.t n) from rfl)

/-! ### arguments -/
def fNil : Fa := fun _ M => .ok [] M
def fCons (f : Fx) (g : Fa) : Fa := fun sd M => (f sd M).bind fun w M1 => (g sd M1).bind fun ws M2 => .ok (w :: ws) M2
theorem fa_nil : PA X [] (tA K T fNil) := pa_nil.weak fun σ H Q ⟨ms, sd, M, R, S, h⟩ => h.here R .nil
theorem fa_cons {e : Expr} {es : List Expr} {f : Fx} {g : Fa} (ha : PE X e (tF K T f)) (hr : PA X es (tA K T g)) (hs : starEach (e :: es) X.env = (false, eval e X.env) :: starEach es X.env := by rfl) : PA X (e :: es) (tA K T (fCons f g)) :=
  (pa_cons ha hr hs).weak fun σ H Q ⟨ms, sd, M, R, S, h⟩ => tF_use R S h fun w M1 m1 H1 v h1 e1 R1 S1 r1 => tA_use R1 S1 h1 fun ws M2 m2 H2 vs h2 e2 R2 S2 r2 => h2.here R2 (.cons (r1.ext e2) r2)

/-! ### operations of two values -/
abbrev Fo := Wv → Wv → Sto → Res Wv
def fOp (o : Fo) (f g : Fx) : Fx := fun sd M => (f sd M).bind fun x M1 => (g sd M1).bind fun y M2 => o x y M2
def OkR2 (K : PySem.W.Frag) (T : List (Addr × Str)) (r : R2) (o : Fo) : Prop := ∀ (ms : Ms) (M : Sto) (H : Hp) (x y : Wv) (v u : V) (Q : VK), RelM K T ms M H → RepW K ms H v x → RepW K ms H u y → Wp K T ms H (RepW K) (o x y M) Q → r v u H Q
theorem t_op {r : R2} {o : Fo} {f g : Fx} (hr : OkR2 K T r o) : ∀ σ H Q, tF K T (fOp o f g) σ H Q → tOp r (tF K T f) (tF K T g) σ H Q := fun σ H Q ⟨ms, sd, M, R, S, h⟩ =>
  tF_use R S h fun w M1 m1 H1 v h1 e1 R1 S1 r1 => tF_use R1 S1 h1 fun y M2 m2 H2 u h2 e2 R2 S2 r2 => hr m2 M2 H2 w y v u Q R2 (r1.ext e2) r2 h2
variable {a b c : Expr} {f g k : Fx}
theorem fe_op {op : Operator} {r : R2} {o : Fo} (ho : OpR X (binaryOp op) r) (hr : OkR2 K T r o) (ha : PE X a (tF K T f)) (hb : PE X b (tF K T g)) : PE X (.BinOp a op b pos) (tF K T (fOp o f g)) := (pe_op ho ha hb).weak (t_op hr)
theorem fe_cmp {op : CmpOp} {r : R2} {o : Fo} (ho : OpR X (compareOp op) r) (hr : OkR2 K T r o) (ha : PE X a (tF K T f)) (hb : PE X b (tF K T g)) (hm : behindInMarks op b = false) : PE X (.Compare a [op] [b] pos) (tF K T (fOp o f g)) := (pe_cmpR ho ha hb hm).weak (t_op hr)
theorem fe_ix {r : R2} {o : Fo} (hr' : IxR X r) (hr : OkR2 K T r o) (ha : PE X a (tF K T f)) (hb : PE X b (tF K T g)) (hs : PlainIx b) : PE X (.Subscript a b pos) (tF K T (fOp o f g)) := (pe_ix hr' ha hb hs).weak (t_op hr)
/-- a value as a test: a truth -/
def fTest (f : Fx) : Ft := fun sd M => (f sd M).bind fun w M1 => match w with
  | .d (.bool b) => .ok b M1
  | _ => .bad
theorem t_test {f : Fx} : ∀ σ H Q, tT K T (fTest f) σ H Q → tTest (tF K T f) σ H Q := fun σ H Q ⟨ms, sd, M, R, S, h⟩ =>
  tF_use R S h fun w M1 m1 H1 v h1 e1 R1 S1 r1 => by
    split at h1
    · cases r1
      exact ⟨_, rfl, h1.here R1 rfl⟩
    · exact h1.elim
theorem ft_cmp {op : CmpOp} {r : R2} {o : Fo} (ho : OpR X (compareOp op) r) (hr : OkR2 K T r o) (ha : PE X a (tF K T f)) (hb : PE X b (tF K T g)) (hm : behindInMarks op b = false) : PT X (.Compare a [op] [b] pos) (tT K T (fTest (fOp o f g))) :=
  (pt_cmpR ho ha hb hm).weak fun σ H Q h => t_op hr σ H _ (t_test σ H Q h)
theorem ft_val {e : Expr} (h : PE X e (tF K T f)) (he : ∀ whole, isTrue e X.env whole = (do let v ← whole; standAt e.pos; holding [v] (truthy v)) := by intro _; rfl) : PT X e (tT K T (fTest f)) := (pt_val h he).weak t_test

/-! ### and, or, not -/
def fNotT (f : Ft) : Ft := fun sd M => (f sd M).bind fun b M1 => .ok (!b) M1
def fAndT (f g : Ft) : Ft := fun sd M => (f sd M).bind fun b M1 => if b = true then g sd M1 else .ok false M1
def fOrT (f g : Ft) : Ft := fun sd M => (f sd M).bind fun b M1 => if b = true then .ok true M1 else g sd M1
variable {cA cB : Ft} {rest : List Expr}
theorem ft_not (ha : PT X a (tT K T cA)) : PT X (.UnaryOp .Not a pos) (tT K T (fNotT cA)) := (pt_not ha).weak fun σ H Q ⟨ms, sd, M, R, S, h⟩ => tT_use R S h fun w M1 m1 H1 h1 e1 R1 S1 => h1.here R1 rfl
theorem fw_and (ha : PT X a (tT K T cA)) (hb : PW X (.BoolOp .And (b :: rest) pos) (tT K T cB)) : PW X (.BoolOp .And (a :: b :: rest) pos) (tT K T (fAndT cA cB)) := (pw_and ha hb).weak fun σ H Q ⟨ms, sd, M, R, S, h⟩ => tT_use R S h fun w M1 m1 H1 h1 e1 R1 S1 => by
  cases w with
  | true => exact ⟨m1, sd, M1, R1, S1, h1⟩
  | false => exact h1.here R1 rfl
theorem fw_or (ha : PT X a (tT K T cA)) (hb : PW X (.BoolOp .Or (b :: rest) pos) (tT K T cB)) : PW X (.BoolOp .Or (a :: b :: rest) pos) (tT K T (fOrT cA cB)) := (pw_or ha hb).weak fun σ H Q ⟨ms, sd, M, R, S, h⟩ => tT_use R S h fun w M1 m1 H1 h1 e1 R1 S1 => by
  cases w with
  | false => exact ⟨m1, sd, M1, R1, S1, h1⟩
  | true => exact h1.here R1 rfl
/-- .. as values, of truths -/
def fAndV (f g : Fx) : Fx := fun sd M => (f sd M).bind fun w M1 => match w with
  | .d (.bool true) => g sd M1
  | .d (.bool false) => .ok (.d (.bool false)) M1
  | _ => .bad
def fOrV (f g : Fx) : Fx := fun sd M => (f sd M).bind fun w M1 => match w with
  | .d (.bool true) => .ok (.d (.bool true)) M1
  | .d (.bool false) => g sd M1
  | _ => .bad
def fNotV (f : Ft) : Fx := fun sd M => (f sd M).bind fun b M1 => .ok (.d (.bool !b)) M1
theorem fe_and (ha : PE X a (tF K T f)) (hb : PE X (.BoolOp .And (b :: rest) pos) (tF K T g)) : PE X (.BoolOp .And (a :: b :: rest) pos) (tF K T (fAndV f g)) := (pe_and ha hb).weak fun σ H Q ⟨ms, sd, M, R, S, h⟩ => tF_use R S h fun w M1 m1 H1 v h1 e1 R1 S1 r1 => by
  split at h1
  · cases r1
    exact ⟨true, rfl, ⟨m1, sd, M1, R1, S1, h1⟩⟩
  · cases r1
    exact ⟨false, rfl, h1.here R1 (show RepW K m1 H1 (.bl false) (.d (.bool false)) from .bl false)⟩
  · exact h1.elim
theorem fe_or (ha : PE X a (tF K T f)) (hb : PE X (.BoolOp .Or (b :: rest) pos) (tF K T g)) : PE X (.BoolOp .Or (a :: b :: rest) pos) (tF K T (fOrV f g)) := (pe_or ha hb).weak fun σ H Q ⟨ms, sd, M, R, S, h⟩ => tF_use R S h fun w M1 m1 H1 v h1 e1 R1 S1 r1 => by
  split at h1
  · cases r1
    exact ⟨true, rfl, h1.here R1 (show RepW K m1 H1 (.bl true) (.d (.bool true)) from .bl true)⟩
  · cases r1
    exact ⟨false, rfl, ⟨m1, sd, M1, R1, S1, h1⟩⟩
  · exact h1.elim
/-- a if t else b -/
def fIf (t : Ft) (f g : Fx) : Fx := fun sd M => (t sd M).bind fun b M1 => if b = true then f sd M1 else g sd M1
theorem fe_if (hc : PT X c (tT K T cA)) (ha : PE X a (tF K T f)) (hb : PE X b (tF K T g)) : PE X (.IfExp c a b pos) (tF K T (fIf cA f g)) := (pe_ifExp hc ha hb).weak fun σ H Q ⟨ms, sd, M, R, S, h⟩ => tT_use R S h fun w M1 m1 H1 h1 e1 R1 S1 => by
  cases w with
  | true => exact ⟨m1, sd, M1, R1, S1, h1⟩
  | false => exact ⟨m1, sd, M1, R1, S1, h1⟩

/-! ### displays -/
def fTup (f : Fa) : Fx := fun sd M => (f sd M).bind fun ws M1 => match datas ws with
  | some ds => if ds.length ≤ sizeLine then .ok (.d (.tuple ds)) M1 else .bad
  | none => .bad
theorem fe_tup {es : List Expr} {x1} {f : Fa} (h : PA X es (tA K T f)) : PE X (.Tuple es x1 pos) (tF K T (fTup f)) := (pe_tupF h).weak fun σ H Q ⟨ms, sd, M, R, S, h⟩ => tA_use R S h fun ws M1 m1 H1 vs h1 e1 R1 S1 r1 => by
  split at h1
  · rename_i ds e
    have hd := datas_rep e r1
    split at h1
    · rename_i hz
      refine ⟨by rw [dma_len hd]; exact hz, fun p o hp ho => h1 m1 _ (.ref p) (.new hp) (R1.new hp) (dm_newT hd hp (R1.fresh hp) ho)⟩
    · exact h1.elim
  · exact h1.elim
/-- a list that nobody turns; one that may be turned -/
def fLst (f : Fa) : Fx := fun sd M => (f sd M).bind fun ws M1 => match datas ws with
  | some ds => if ds.length ≤ sizeLine then .ok (.d (.list ds)) M1 else .bad
  | none => .bad
def fLstM (f : Fa) : Fx := fun sd M => (f sd M).bind fun ws M1 => if ws.length ≤ sizeLine then .ok (.r M1.length) (M1 ++ [.lst ws]) else .bad
theorem fe_lst {es : List Expr} {f : Fa} (h : PA X es (tA K T f)) : PE X (.List es pos) (tF K T (fLst f)) := (pe_lst h).weak fun σ H Q ⟨ms, sd, M, R, S, h⟩ => tA_use R S h fun ws M1 m1 H1 vs h1 e1 R1 S1 r1 => by
  split at h1
  · rename_i ds e
    have hd := datas_rep e r1
    split at h1
    · rename_i hz
      refine ⟨by rw [dma_len hd]; exact hz, fun p hp => h1 m1 _ (.ref p) (.new hp) (R1.new hp) (dm_newL hd hp (R1.fresh hp))⟩
    · exact h1.elim
  · exact h1.elim
theorem fe_lstM {es : List Expr} {f : Fa} (h : PA X es (tA K T f)) : PE X (.List es pos) (tF K T (fLstM f)) := (pe_lst h).weak fun σ H Q ⟨ms, sd, M, R, S, h⟩ => tA_use R S h fun ws M1 m1 H1 vs h1 e1 R1 S1 r1 => by
  split at h1
  · rename_i hz
    refine ⟨by rw [repall_len r1]; exact hz, fun p hp => h1 (m1.add p) _ (.ref p) (.add hp) (R1.add hp ⟨vs, upd_same, r1.ext (.add hp)⟩) ⟨p, ?_, rfl⟩⟩
    rw [← R1.len]
    show (m1.a ++ [p])[m1.a.length]? = _
    rw [List.getElem?_append_right (Nat.le_refl _), Nat.sub_self]
    rfl
  · exact h1.elim
end
end Fu

set_option Elab.async false
set_option linter.all false
set_option maxRecDepth 100000
set_option maxHeartbeats 4000000
/-! The functional reading, III: operations by values, calls of builtins. -/
namespace Fu
open PySem PySem.Spec PyProof.Rows L2 Dat LamX
section
variable {K : PySem.W.Frag} {T : List (Addr × Str)}
/-! ### numbers -/
def oI (g : Int → Int → PyData) : Fo := fun x y M => match x, y with
  | .d (.int i), .d (.int j) => .ok (.d (g i j)) M
  | _, _ => .bad
theorem ok_I0 {g : Int → Int → V} {g' : Int → Int → PyData} (hg : ∀ ms H i j, Dm K ms H (g i j) (g' i j)) : OkR2 K T (rI0 g) (oI g') := by
  intro ms M H x y v u Q R rx ry h
  unfold oI at h
  split at h
  · cases rx
    cases ry
    exact ⟨_, _, rfl, rfl, h.here R (hg _ _ _ _)⟩
  · exact h.elim
def oIC (C : Int → Int → Bool) (g : Int → Int → PyData) : Fo := fun x y M => match x, y with
  | .d (.int i), .d (.int j) => if C i j = true then .ok (.d (g i j)) M else .bad
  | _, _ => .bad
theorem ok_IC {C : Int → Int → Prop} {C' : Int → Int → Bool} {g : Int → Int → V} {g' : Int → Int → PyData} (hC : ∀ i j, C' i j = true → C i j) (hg : ∀ ms H i j, Dm K ms H (g i j) (g' i j)) : OkR2 K T (rI C g) (oIC C' g') := by
  intro ms M H x y v u Q R rx ry h
  unfold oIC at h
  split at h
  · cases rx
    cases ry
    split at h
    · rename_i hc
      exact ⟨_, _, rfl, rfl, hC _ _ hc, h.here R (hg _ _ _ _)⟩
    · exact h.elim
  · exact h.elim
def oAdd : Fo := oI fun i j => .int (i + j)
def oSub : Fo := oI fun i j => .int (i - j)
def oLt : Fo := oI fun i j => .bool (decide (i < j))
def oLe : Fo := oI fun i j => .bool (decide (i ≤ j))
def oGt : Fo := oI fun i j => .bool (decide (j < i))
def oGe : Fo := oI fun i j => .bool (decide (j ≤ i))
def oMul : Fo := oIC (fun i j => decide (-(2 ^ 64) < i ∧ i < 2 ^ 64) || decide (-(2 ^ 64) < j ∧ j < 2 ^ 64)) fun i j => .int (i * j)
def oMod : Fo := oIC (fun _ j => decide (0 < j)) fun i j => .int (i % j)
def oFdiv : Fo := oIC (fun _ j => decide (0 < j ∧ j < 1073741824)) fun i j => .int (i / j)
def oPow : Fo := oIC (fun i j => decide (0 ≤ j ∧ j ≤ 1000000 ∧ i.natAbs < 2 ^ 64)) fun i j => .int (i ^ j.toNat)
theorem k2_add : OkR2 K T (rI0 fun i j => .int (i + j)) oAdd := ok_I0 fun _ _ _ _ => .int _
theorem k2_sub : OkR2 K T (rI0 fun i j => .int (i - j)) oSub := ok_I0 fun _ _ _ _ => .int _
theorem k2_lt : OkR2 K T (rI0 fun i j => .bl (decide (i < j))) oLt := ok_I0 fun _ _ _ _ => .bl _
theorem k2_le : OkR2 K T (rI0 fun i j => .bl (decide (i ≤ j))) oLe := ok_I0 fun _ _ _ _ => .bl _
theorem k2_gt : OkR2 K T (rI0 fun i j => .bl (decide (j < i))) oGt := ok_I0 fun _ _ _ _ => .bl _
theorem k2_ge : OkR2 K T (rI0 fun i j => .bl (decide (j ≤ i))) oGe := ok_I0 fun _ _ _ _ => .bl _
theorem k2_mul : OkR2 K T (rI CMul fun i j => .int (i * j)) oMul := ok_IC (fun i j h => by
  rw [Bool.or_eq_true, decide_eq_true_eq, decide_eq_true_eq] at h
  exact h) fun _ _ _ _ => .int _
theorem k2_mod : OkR2 K T (rI (fun _ j => 0 < j) fun i j => .int (i % j)) oMod := ok_IC (fun i j h => of_decide_eq_true h) fun _ _ _ _ => .int _
theorem k2_fdiv : OkR2 K T (rI CDiv fun i j => .int (i / j)) oFdiv := ok_IC (fun i j h => by simpa [CDiv] using h) fun _ _ _ _ => .int _
theorem k2_pow : OkR2 K T (rI CPow fun i j => .int (i ^ j.toNat)) oPow := ok_IC (fun i j h => by simpa [CPow] using h) fun _ _ _ _ => .int _

/-! ### == and != -/
/-- of scalars, not of a truth and a number -/
def eqs : PyData → PyData → Option Bool
  | .none, .none => some true
  | .bool a, .bool b => some (a == b)
  | .int a, .int b => some (a == b)
  | .str a, .str b => some (a == b)
  | .none, .int _ => some false
  | .int _, .none => some false
  | .none, .bool _ => some false
  | .bool _, .none => some false
  | .none, .str _ => some false
  | .str _, .none => some false
  | .int _, .str _ => some false
  | .str _, .int _ => some false
  | .bool _, .str _ => some false
  | .str _, .bool _ => some false
  | _, _ => none
theorem eqs_v {ms : Ms} {H : Hp} {x y : PyData} {v u : V} {b : Bool} (h : eqs x y = some b) (rx : Dm K ms H v x) (ry : Dm K ms H u y) : scal v u = true ∧ decide (v = u) = b := by
  cases rx <;> cases ry <;> simp_all [eqs, scal] <;> (rw [← h]; first | exact dec_int | exact dec_bl | exact dec_str | rfl)
def oEqS (neg : Bool) : Fo := fun x y M => match x, y with
  | .d a, .d b => match eqs a b with
    | some k => .ok (.d (.bool (if neg then !k else k))) M
    | none => .bad
  | _, _ => .bad
theorem k2_eqS : OkR2 K T rEq (oEqS false) := by
  intro ms M H x y v u Q R rx ry h
  unfold oEqS at h
  split at h
  · rename_i a b
    split at h
    · rename_i k e
      obtain ⟨h1, h2⟩ := eqs_v e rx ry
      refine ⟨h1, ?_⟩
      rw [h2]
      exact h.here R (show RepW K ms H (.bl k) (.d (.bool k)) from .bl k)
    · exact h.elim
  · exact h.elim
theorem k2_neS : OkR2 K T rNe (oEqS true) := by
  intro ms M H x y v u Q R rx ry h
  unfold oEqS at h
  split at h
  · rename_i a b
    split at h
    · rename_i k e
      obtain ⟨h1, h2⟩ := eqs_v e rx ry
      refine ⟨h1, ?_⟩
      rw [h2]
      exact h.here R (show RepW K ms H (.bl !k) (.d (.bool !k)) from .bl _)
    · exact h.elim
  · exact h.elim
/-- a list that is known, as data -/
def dataOf (M : Sto) : Wv → Option PyData
  | .d x => some x
  | .r i => match M[i]? with
    | some (.lst ws) => (datas ws).map .list
    | _ => none
  | _ => none
theorem dataOf_dp {ms : Ms} {M : Sto} {H : Hp} {w : Wv} {v : V} {x : PyData} (R : RelM K T ms M H) (h : dataOf M w = some x) (r : RepW K ms H v w) : Dp K H v x := by
  cases w with
  | d y =>
    cases h
    exact Dm.dp r
  | r i =>
    obtain ⟨a, ha, rfl⟩ := r
    have h : (match M[i]? with | some (.lst ws) => (datas ws).map PyData.list | _ => none) = some x := h
    split at h
    · rename_i ws e
      cases q : datas ws with
      | none => rw [q] at h; cases h
      | some ds =>
        rw [q] at h
        cases h
        obtain ⟨vs, e1, e2⟩ := R.ob i a _ ha e
        exact .lst (SqL.of e1) (datas_rep q e2).dp
    · cases h
  | t n => cases h
  | s n => cases h
def oEqD (neg : Bool) : Fo := fun x y M => match dataOf M x, dataOf M y with
  | some a, some b => if (SeqAt.shaped a && SeqAt.shaped b) = true then .ok (.d (.bool (if neg then !PyData.eqv a b else PyData.eqv a b))) M else .bad
  | _, _ => .bad
theorem k2_eqD : OkR2 K T (rEqD K) (oEqD false) := by
  intro ms M H x y v u Q R rx ry h
  unfold oEqD at h
  split at h
  · rename_i a b e1 e2
    split at h
    · rename_i hs
      rw [Bool.and_eq_true] at hs
      exact ⟨a, b, dataOf_dp R e1 rx, dataOf_dp R e2 ry, hs.1, hs.2, h.here R (show RepW K ms H _ (.d (.bool _)) from .bl _)⟩
    · exact h.elim
  · exact h.elim
theorem k2_neD : OkR2 K T (rNeD K) (oEqD true) := by
  intro ms M H x y v u Q R rx ry h
  unfold oEqD at h
  split at h
  · rename_i a b e1 e2
    split at h
    · rename_i hs
      rw [Bool.and_eq_true] at hs
      exact ⟨a, b, dataOf_dp R e1 rx, dataOf_dp R e2 ry, hs.1, hs.2, h.here R (show RepW K ms H _ (.d (.bool _)) from .bl _)⟩
    · exact h.elim
  · exact h.elim
/-- is None, is not None: of data and known objects -/
def isNo : Wv → Option Bool
  | .d .none => some true
  | .d _ => some false
  | .r _ => some false
  | _ => none
def oIs (neg : Bool) : Fo := fun x y M => match y, isNo x with
  | .d .none, some b => .ok (.d (.bool (if neg then !b else b))) M
  | _, _ => .bad
theorem isNo_v {ms : Ms} {H : Hp} {x : Wv} {v : V} {b : Bool} (h : isNo x = some b) (r : RepW K ms H v x) : decide (v = .non) = b := by
  cases x with
  | d x =>
    have r' : Dm K ms H v x := r
    cases r' <;> simp_all [isNo]
  | r i =>
    obtain ⟨a, _, rfl⟩ := r
    simp_all [isNo]
  | t n => simp [isNo] at h
  | s n => simp [isNo] at h
theorem k2_isN : OkR2 K T (fun x y H Q => y = .non ∧ Q (.bl (decide (x = .non))) H) (oIs false) := by
  intro ms M H x y v u Q R rx ry h
  unfold oIs at h
  split at h
  · rename_i b e
    cases ry
    refine ⟨rfl, ?_⟩
    rw [isNo_v e rx]
    exact h.here R (show RepW K ms H _ (.d (.bool _)) from .bl _)
  · exact h.elim
theorem k2_notN : OkR2 K T (fun x y H Q => y = .non ∧ Q (.bl (!decide (x = .non))) H) (oIs true) := by
  intro ms M H x y v u Q R rx ry h
  unfold oIs at h
  split at h
  · rename_i b e
    cases ry
    refine ⟨rfl, ?_⟩
    rw [isNo_v e rx]
    exact h.here R (show RepW K ms H _ (.d (.bool _)) from .bl _)
  · exact h.elim

/-! ### texts -/
def oAddS : Fo := fun x y M => match x, y with
  | .d (.str a), .d (.str b) => if a.length + b.length ≤ sizeLine then .ok (.d (.str (a ++ b))) M else .bad
  | _, _ => .bad
theorem k2_addS : OkR2 K T (fun x y H Q => ∃ i j, x = .str i ∧ y = .str j ∧ i.length + j.length ≤ sizeLine ∧ Q (.str (i ++ j)) H) oAddS := by
  intro ms M H x y v u Q R rx ry h
  unfold oAddS at h
  split at h
  · split at h
    · cases rx
      cases ry
      exact ⟨_, _, rfl, rfl, by assumption, h.here R (show RepW K ms H _ (.d (.str _)) from .str _)⟩
    · exact h.elim
  · exact h.elim

/-! ### rows of things: lists (data, known ones), tuples -/
/-- the things of a list -/
def lsv (M : Sto) : Wv → Option (List Wv)
  | .d (.list ds) => some (ds.map .d)
  | .r i => match M[i]? with
    | some (.lst ws) => some ws
    | _ => none
  | _ => none
theorem lsv_at {ms : Ms} {M : Sto} {H : Hp} {w : Wv} {v : V} {ws : List Wv} (R : RelM K T ms M H) (h : lsv M w = some ws) (r : RepW K ms H v w) : ∃ a vs, v = .ref a ∧ H a = some (.lst vs) ∧ RepAll K ms H vs ws := by
  unfold lsv at h
  split at h
  · cases h
    obtain ⟨a, vs, rfl, h1, h2⟩ := Dm.lstE r
    exact ⟨a, vs, rfl, h1.1, rep_datas h2⟩
  · rename_i i
    obtain ⟨a, ha, rfl⟩ := r
    split at h
    · rename_i us e
      cases h
      obtain ⟨vs, e1, e2⟩ := R.ob i a _ ha e
      exact ⟨a, vs, rfl, e1, e2⟩
    · cases h
  · cases h
/-- .. of a list or a tuple -/
def sqv (M : Sto) : Wv → Option (List Wv)
  | .d (.tuple ds) => some (ds.map .d)
  | w => lsv M w
theorem sqv_at {ms : Ms} {M : Sto} {H : Hp} {w : Wv} {v : V} {ws : List Wv} (R : RelM K T ms M H) (h : sqv M w = some ws) (r : RepW K ms H v w) : ∃ a vs, v = .ref a ∧ (SqL K H a vs ∨ SqT K H a vs) ∧ RepAll K ms H vs ws := by
  unfold sqv at h
  split at h
  · cases h
    obtain ⟨a, vs, rfl, h1, h2⟩ := Dm.tupE r
    exact ⟨a, vs, rfl, .inr h1.sq, rep_datas h2⟩
  · obtain ⟨a, vs, rfl, h1, h2⟩ := lsv_at R h r
    exact ⟨a, vs, rfl, .inl (SqL.of h1), h2⟩
theorem repall_atI {ms : Ms} {H : Hp} {vs : List V} {ws : List Wv} {i : Int} {w : Wv} (r : RepAll K ms H vs ws) (h : atI ws i = some w) : ∃ v, atI vs i = some v ∧ RepW K ms H v w := by
  unfold atI at h ⊢
  rw [repall_len r]
  cases q : ixN ws.length i with
  | none => rw [q] at h; cases h
  | some j =>
    rw [q] at h
    obtain ⟨v, h1, h2⟩ := repall_get (i := j) r h
    exact ⟨v, h1, h2⟩
def oIxT : Fo := fun x y M => match x, y with
  | .d (.tuple ds), .d (.int i) => match atI ds i with
    | some d => .ok (.d d) M
    | none => .bad
  | _, _ => .bad
theorem atI_map {α β : Type} (f : α → β) (xs : List α) (i : Int) : atI (xs.map f) i = (atI xs i).map f := by
  unfold atI
  rw [List.length_map]
  cases ixN xs.length i with
  | none => rfl
  | some j => simp
theorem k2_ixT : OkR2 K T (rIxT K) oIxT := by
  intro ms M H x y v u Q R rx ry h
  unfold oIxT at h
  split at h
  · rename_i ds i
    split at h
    · rename_i d e
      cases ry
      obtain ⟨a, vs, rfl, h1, h2⟩ := Dm.tupE rx
      obtain ⟨z, hz, rz⟩ := repall_atI (rep_datas h2) (show atI (ds.map Wv.d) i = some (.d d) by rw [atI_map, e]; rfl)
      exact ⟨a, vs, i, z, rfl, rfl, h1.sq, hz, h.here R rz⟩
    · exact h.elim
  · exact h.elim
def oIxL : Fo := fun x y M => match lsv M x, y with
  | some ws, .d (.int i) => match atI ws i with
    | some w => .ok w M
    | none => .bad
  | _, _ => .bad
theorem k2_ixL : OkR2 K T (rIxL K) oIxL := by
  intro ms M H x y v u Q R rx ry h
  unfold oIxL at h
  split at h
  · rename_i ws i e
    split at h
    · rename_i w e2
      cases ry
      obtain ⟨a, vs, rfl, h1, h2⟩ := lsv_at R e rx
      obtain ⟨z, hz, rz⟩ := repall_atI h2 e2
      exact ⟨a, vs, i, z, rfl, rfl, SqL.of h1, hz, h.here R rz⟩
    · exact h.elim
  · exact h.elim
def oIxS : Fo := fun x y M => match x, y with
  | .d (.str z), .d (.int i) => match atI z.cps.toList i with
    | some c => if z.length ≤ sizeLine then .ok (.d (.str ⟨#[c]⟩)) M else .bad
    | none => .bad
  | _, _ => .bad
theorem k2_ixS : OkR2 K T rIxS oIxS := by
  intro ms M H x y v u Q R rx ry h
  unfold oIxS at h
  split at h
  · split at h
    · split at h
      · cases rx
        cases ry
        exact ⟨_, _, _, rfl, rfl, by assumption, by assumption, h.here R (show RepW K ms H _ (.d (.str _)) from .str _)⟩
      · exact h.elim
    · exact h.elim
  · exact h.elim
/-- in, not in: flat things -/
def flatD : PyData → Bool
  | .none => true
  | .bool _ => true
  | .int _ => true
  | .str _ => true
  | _ => false
def inD (x : PyData) (ds : List PyData) : Bool := ds.any fun y => PyData.eqv y x
theorem flat_v {ms : Ms} {H : Hp} {v : V} {d : PyData} (r : Dm K ms H v d) (f : flatD d = true) : flatV v = true := by cases r <;> simp_all [flatD, flatV]
theorem eqv_v {ms : Ms} {H : Hp} {v u : V} {d e : PyData} (r : Dm K ms H v d) (q : Dm K ms H u e) (f : flatD d = true) (g : flatD e = true) : eqV v u = PyData.eqv d e := by
  cases r <;> simp_all [flatD] <;> cases q <;> simp_all [flatD, eqV, PyData.eqv]
theorem inV_d {ms : Ms} {H : Hp} {v : V} {d : PyData} (r : Dm K ms H v d) (f : flatD d = true) : ∀ {vs : List V} {ds : List PyData}, DmAll K ms H vs ds → ds.all flatD = true → vs.all flatV = true ∧ inV v vs = inD d ds
  | _, _, .nil, _ => ⟨rfl, rfl⟩
  | v' :: vs, d' :: ds, .cons h t, g => by
    rw [List.all_cons, Bool.and_eq_true] at g
    obtain ⟨h1, h2⟩ := inV_d r f t g.2
    refine ⟨by rw [List.all_cons, flat_v h g.1, h1]; rfl, ?_⟩
    unfold inV inD at *
    rw [List.any_cons, List.any_cons, h2, eqv_v h r g.1 f]
def oIn (neg : Bool) : Fo := fun x y M => match x, (sqv M y).bind datas with
  | .d d, some ds => if (flatD d && ds.all flatD) = true then .ok (.d (.bool (if neg then !inD d ds else inD d ds))) M else .bad
  | _, _ => .bad
theorem k2_in (neg : Bool) : OkR2 K T (rIn K neg) (oIn neg) := by
  intro ms M H x y v u Q R rx ry h
  unfold oIn at h
  split at h
  · rename_i d ds e
    split at h
    · rename_i hf
      rw [Bool.and_eq_true] at hf
      cases q : sqv M y with
      | none => rw [q] at e; cases e
      | some ws =>
        rw [q] at e
        obtain ⟨a, vs, rfl, h1, h2⟩ := sqv_at R q ry
        obtain ⟨g1, g2⟩ := inV_d rx hf.1 (datas_rep e h2) hf.2
        refine ⟨a, vs, rfl, h1, flat_v rx hf.1, g1, ?_⟩
        rw [g2]
        cases neg <;> exact h.here R (show RepW K ms H _ (.d (.bool _)) from .bl _)
    · exact h.elim
  · exact h.elim
end
end Fu

set_option Elab.async false
set_option linter.all false
set_option maxRecDepth 100000
set_option maxHeartbeats 4000000
/-! The functional reading, IV: calls of builtins, slices, methods of lists, dicts. -/
namespace Fu
open PySem PySem.Spec PyProof.Rows L2 Dat LamX
abbrev Fn := List Wv → Sto → Res Wv
def fCall (o : Fn) (f : Fa) : Fx := fun sd M => (f sd M).bind o
section
variable {K : PySem.W.Frag} {T : List (Addr × Str)} {X : Cx} {pos : Pos}
def OkRC (K : PySem.W.Frag) (T : List (Addr × Str)) (r : List V → Hp → VK → Prop) (o : Fn) : Prop := ∀ (ms : Ms) (M : Sto) (H : Hp) (ws : List Wv) (vs : List V) (Q : VK), RelM K T ms M H → RepAll K ms H vs ws → Wp K T ms H (RepW K) (o ws M) Q → r vs H Q
theorem t_call {r : List V → Hp → VK → Prop} {o : Fn} {f : Fa} (hr : OkRC K T r o) : ∀ σ H Q, tF K T (fCall o f) σ H Q → tCB r (tA K T f) σ H Q := fun σ H Q ⟨ms, sd, M, R, S, h⟩ =>
  tA_use R S h fun ws M1 m1 H1 vs h1 e1 R1 S1 r1 => hr m1 M1 H1 ws vs Q R1 r1 h1
variable {x : Str} {p : Pos} {e : Expr} {es : List Expr} {bid n : String} {r : List V → Hp → VK → Prop} {o : Fn} {f : Fa}
theorem fe_callB (hc : CallR X (.builtin bid) r) (ho : OkRC K T r o) (hg : Gl X x) (hm : X.mg x = none) (hv : bootBuiltins x = some (.builtin bid)) (ha : PA X (e :: es) (tA K T f)) (hn : x ≠ "__name__" := by decide) (hdb : (x == ("__debug__" : Str)) = false := by decide)
    (he : starEach (e :: es) X.env = (false, eval e X.env) :: starEach es X.env := by rfl) (hpl : (backTo pos (starEach es X.env)).any (·.1) = false := by rfl) : PE X (.Call (.Name x p) (e :: es) [] pos) (tF K T (fCall o f)) :=
  (pe_callB hc hg hm hv ha hn hdb he hpl).weak (t_call ho)
theorem fe_callTy (hc : CallR X (.type n) r) (ho : OkRC K T r o) (hg : Gl X x) (hm : X.mg x = none) (hv : bootBuiltins x = some (.type n)) (ha : PA X (e :: es) (tA K T f)) (hn : x ≠ "__name__" := by decide) (hdb : (x == ("__debug__" : Str)) = false := by decide)
    (he : starEach (e :: es) X.env = (false, eval e X.env) :: starEach es X.env := by rfl) (hpl : (backTo pos (starEach es X.env)).any (·.1) = false := by rfl) : PE X (.Call (.Name x p) (e :: es) [] pos) (tF K T (fCall o f)) :=
  (pe_callTy hc hg hm hv ha hn hdb he hpl).weak (t_call ho)
/-- a def of the text by a function -/
def spF (K : PySem.W.Frag) (T : List (Addr × Str)) (F : Fn) : Sp := fun vs H Q _ => ∃ ms ws M, RelM K T ms M H ∧ RepAll K ms H vs ws ∧ Wp K T ms H (RepW K) (F ws M) Q
theorem fe_cG {k j : Nat} {F : Fn} (c : CalG X.prog X.w X.K X.mg X.base k x (spF K T F) []) (gd : Gd X.A) (hr : Room j X.A) (hk : k ≤ j) (hg : Gl X x) (ha : PA X (e :: es) (tA K T f))
    (hdb : (x == ("__debug__" : Str)) = false := by decide) (he : starEach (e :: es) X.env = (false, eval e X.env) :: starEach es X.env := by rfl) (hpl : (backTo pos (starEach es X.env)).any (·.1) = false := by rfl) :
    PE X (.Call (.Name x p) (e :: es) [] pos) (tF K T (fCall F f)) :=
  (pe_cG c gd hr hk hg ha hdb he hpl).weak fun σ H Q ⟨ms, sd, M, R, S, h⟩ => tA_use R S h fun ws M1 m1 H1 vs h1 e1 R1 S1 r1 => ⟨m1, ws, M1, R1, by rw [List.append_nil]; exact r1, h1⟩

/-! ### builtins -/
def oLen : Fn := fun ws M => match ws with
  | [w] => match sqv M w with
    | some us => .ok (.d (.int us.length)) M
    | none => .bad
  | _ => .bad
theorem k_rlen : OkRC K T (fun xs H Q => ∃ p ys, xs = [.ref p] ∧ (SqL K H p ys ∨ SqT K H p ys) ∧ Q (.int ys.length) H) oLen := by
  intro ms M H ws vs Q R rv h
  unfold oLen at h
  split at h
  · split at h
    · rename_i us e
      cases rv with
      | cons r t =>
        cases t
        obtain ⟨a, ys, rfl, h1, h2⟩ := sqv_at R e r
        refine ⟨a, ys, rfl, h1, ?_⟩
        rw [repall_len h2]
        exact h.here R (show RepW K ms H _ (.d (.int _)) from .int _)
    · exact h.elim
  · exact h.elim
def oLenS : Fn := fun ws M => match ws with
  | [.d (.str z)] => if z.length ≤ sizeLine then .ok (.d (.int z.length)) M else .bad
  | _ => .bad
theorem k_rlenS : OkRC K T (fun xs H Q => ∃ z, xs = [.str z] ∧ z.length ≤ sizeLine ∧ Q (.int z.length) H) oLenS := by
  intro ms M H ws vs Q R rv h
  unfold oLenS at h
  split at h
  · split at h
    · cases rv with
      | cons r t =>
        cases t
        cases r
        exact ⟨_, rfl, by assumption, h.here R (show RepW K ms H _ (.d (.int _)) from .int _)⟩
    · exact h.elim
  · exact h.elim
/-- isinstance by the class's name -/
def isiN (c : String) (n : String) : Option Bool :=
  if c = "tuple" then some (n == "tuple") else if c = "bool" then some (n == "bool") else if c = "int" then some (n == "int" || n == "bool") else if c = "str" then some (n == "str") else
  if c = "list" then some (n == "list") else if c = "dict" then some (n == "dict") else none
def nameOf (M : Sto) : Wv → Option String
  | .d x => some (tyN x)
  | .r i => match M[i]? with
    | some (.lst _) => some "list"
    | some (.dct _) => some "dict"
    | _ => none
  | _ => none
theorem nameOf_ty {ms : Ms} {M : Sto} {H : Hp} {w : Wv} {v : V} {n : String} (R : RelM K T ms M H) (h : nameOf M w = some n) (r : RepW K ms H v w) : TyX K H v (.type n) ∧ n ∈ ["NoneType", "bool", "int", "str", "list", "tuple", "dict"] := by
  cases w with
  | d x =>
    cases h
    refine ⟨ty_of (Dm.dp r), ?_⟩
    cases x <;> simp [tyN]
  | r i =>
    obtain ⟨a, ha, rfl⟩ := r
    have h : (match M[i]? with | some (.lst _) => some "list" | some (.dct _) => some "dict" | _ => none) = some n := h
    split at h
    · rename_i ws e
      cases h
      obtain ⟨vs, e1, e2⟩ := R.ob i a _ ha e
      exact ⟨.base (.lst e1), by simp⟩
    · rename_i kvs e
      cases h
      obtain ⟨us, e1, e2⟩ := R.ob i a _ ha e
      exact ⟨.base (.dK e1), by simp⟩
    · cases h
  | t n => cases h
  | s n => cases h
theorem isi_kit {c n : String} {b : Bool} (h : isiN c n = some b) (hn : n ∈ ["NoneType", "bool", "int", "str", "list", "tuple", "dict"]) : PySem.W.kitOne K (.type n) (.type c) = some b := by
  unfold isiN at h
  simp only [List.mem_cons, List.not_mem_nil, or_false] at hn
  split at h
  · rename_i e; subst e; cases h; rcases hn with z | z | z | z | z | z | z <;> subst z <;> rfl
  split at h
  · rename_i e; subst e; cases h; rcases hn with z | z | z | z | z | z | z <;> subst z <;> rfl
  split at h
  · rename_i e; subst e; cases h; rcases hn with z | z | z | z | z | z | z <;> subst z <;> rfl
  split at h
  · rename_i e; subst e; cases h; rcases hn with z | z | z | z | z | z | z <;> subst z <;> rfl
  split at h
  · rename_i e; subst e; cases h; rcases hn with z | z | z | z | z | z | z <;> subst z <;> rfl
  split at h
  · rename_i e; subst e; cases h; rcases hn with z | z | z | z | z | z | z <;> subst z <;> rfl
  · cases h
def oIsi : Fn := fun ws M => match ws with
  | [w, .t c] => match (nameOf M w).bind (isiN c) with
    | some b => .ok (.d (.bool b)) M
    | none => .bad
  | _ => .bad
theorem k_risi : OkRC K T (rIsi K) oIsi := by
  intro ms M H ws vs Q R rv h
  unfold oIsi at h
  split at h
  · rename_i w c
    split at h
    · rename_i b e
      cases rv with
      | cons r t =>
        cases t with
        | cons r2 t2 =>
          cases t2
          cases q : nameOf M w with
          | none => rw [q] at e; cases e
          | some n =>
            rw [q] at e
            obtain ⟨h1, h2⟩ := nameOf_ty R q r
            have r2' : _ = V.ty c := r2
            subst r2'
            exact ⟨_, _, _, _, b, rfl, .ty c, h1, isi_kit e h2, h.here R (show RepW K ms H _ (.d (.bool _)) from .bl _)⟩
    · exact h.elim
  · exact h.elim
def oRepr : Fn := fun ws M => match ws with
  | [w] => match dataOf M w with
    | some d => if (d.showable && decide (d.depth ≤ 60) && decide (d.shown.length ≤ sizeLine)) = true then .ok (.d (.str d.shown)) M else .bad
    | none => .bad
  | _ => .bad
theorem k_rrepr : OkRC K T (rReprD K) oRepr := by
  intro ms M H ws vs Q R rv h
  unfold oRepr at h
  split at h
  · split at h
    · rename_i d e
      split at h
      · rename_i hc
        rw [Bool.and_eq_true, Bool.and_eq_true, decide_eq_true_eq, decide_eq_true_eq] at hc
        cases rv with
        | cons r t =>
          cases t
          exact ⟨_, d, rfl, dataOf_dp R e r, hc.1.1, hc.1.2, hc.2, h.here R (show RepW K ms H _ (.d (.str _)) from .str _)⟩
      · exact h.elim
    · exact h.elim
  · exact h.elim
def oTuple : Fn := fun ws M => match ws with
  | [.d (.tuple ds)] => .ok (.d (.tuple ds)) M
  | [w] => match (lsv M w).bind datas with
    | some ds => .ok (.d (.tuple ds)) M
    | none => .bad
  | _ => .bad
theorem k_rtup : OkRC K T (rTupOfF K) oTuple := by
  intro ms M H ws vs Q R rv h
  unfold oTuple at h
  split at h
  · rename_i ds
    cases rv with
    | cons r t =>
      cases t
      obtain ⟨a, xs, rfl, h1, h2⟩ := Dm.tupE r
      exact ⟨a, xs, rfl, .inr ⟨h1.sq, h.here R r⟩⟩
  · rename_i w _
    split at h
    · rename_i ds e
      cases rv with
      | cons r t =>
        cases t
        cases q : lsv M w with
        | none => rw [q] at e; cases e
        | some us =>
          rw [q] at e
          obtain ⟨a, xs, rfl, h1, h2⟩ := lsv_at R q r
          exact ⟨a, xs, rfl, .inl ⟨SqL.of h1, fun l o hl ho => h ms _ (.ref l) (.new hl) (R.new hl) (dm_newT (datas_rep e h2) hl (R.fresh hl) ho)⟩⟩
    · exact h.elim
  · exact h.elim
def oList : Fn := fun ws M => match ws with
  | [w] => match (sqv M w).bind datas with
    | some ds => .ok (.d (.list ds)) M
    | none => .bad
  | _ => .bad
theorem k_rlist : OkRC K T (fun xs H Q => ∃ p ys, xs = [.ref p] ∧ (SqL K H p ys ∨ SqT K H p ys) ∧ ∀ l, H l = none → Q (.ref l) (upd H l (.lst ys))) oList := by
  intro ms M H ws vs Q R rv h
  unfold oList at h
  split at h
  · rename_i w
    split at h
    · rename_i ds e
      cases rv with
      | cons r t =>
        cases t
        cases q : sqv M w with
        | none => rw [q] at e; cases e
        | some us =>
          rw [q] at e
          obtain ⟨a, xs, rfl, h1, h2⟩ := sqv_at R q r
          exact ⟨a, xs, rfl, h1, fun l hl => h ms _ (.ref l) (.new hl) (R.new hl) (dm_newL (datas_rep e h2) hl (R.fresh hl))⟩
    · exact h.elim
  · exact h.elim
def oListM : Fn := fun ws M => match ws with
  | [w] => match sqv M w with
    | some us => .ok (.r M.length) (M ++ [.lst us])
    | none => .bad
  | _ => .bad
theorem rep_last {ms : Ms} {M : Sto} {H : Hp} {p : Addr} (R : RelM K T ms M H) {H' : Hp} : RepW K (ms.add p) H' (.ref p) (.r M.length) :=
  ⟨p, by rw [← R.len]; show (ms.a ++ [p])[ms.a.length]? = _; rw [List.getElem?_append_right (Nat.le_refl _), Nat.sub_self]; rfl, rfl⟩
theorem k_rlistM : OkRC K T (fun xs H Q => ∃ p ys, xs = [.ref p] ∧ (SqL K H p ys ∨ SqT K H p ys) ∧ ∀ l, H l = none → Q (.ref l) (upd H l (.lst ys))) oListM := by
  intro ms M H ws vs Q R rv h
  unfold oListM at h
  split at h
  · rename_i w
    split at h
    · rename_i us e
      cases rv with
      | cons r t =>
        cases t
        obtain ⟨a, xs, rfl, h1, h2⟩ := sqv_at R e r
        exact ⟨a, xs, rfl, h1, fun l hl => h (ms.add l) _ (.ref l) (.add hl) (R.add hl ⟨xs, upd_same, h2.ext (.add hl)⟩) (rep_last R)⟩
    · exact h.elim
  · exact h.elim
/-- truths, all of them -/
def boolsD : List PyData → Option (List Bool)
  | [] => some []
  | .bool b :: ds => (boolsD ds).map (b :: ·)
  | _ :: _ => none
theorem bools_v {ms : Ms} {H : Hp} : ∀ {ds : List PyData} {bs : List Bool} {vs : List V}, boolsD ds = some bs → DmAll K ms H vs ds → vs = bs.map V.bl
  | [], bs, _, e, h => by
    cases h
    simp only [boolsD, Option.some.injEq] at e
    subst e
    rfl
  | .bool b :: ds, bs, _, e, h => by
    cases h with
    | cons r t =>
      cases q : boolsD ds with
      | none => simp [boolsD, q] at e
      | some es =>
        simp only [boolsD, q, Option.map_some, Option.some.injEq] at e
        subst e
        cases r
        rw [bools_v q t]
        rfl
  | .none :: ds, bs, _, e, h => by simp [boolsD] at e
  | .int _ :: ds, bs, _, e, h => by simp [boolsD] at e
  | .str _ :: ds, bs, _, e, h => by simp [boolsD] at e
  | .list _ :: ds, bs, _, e, h => by simp [boolsD] at e
  | .tuple _ :: ds, bs, _, e, h => by simp [boolsD] at e
  | .dict _ :: ds, bs, _, e, h => by simp [boolsD] at e
@[simp] theorem bools_map (bs : List Bool) : boolsD (bs.map PyData.bool) = some bs := by
  induction bs with
  | nil => rfl
  | cons b bs ih => simp [boolsD, ih]
def oAll (any : Bool) : Fn := fun ws M => match ws with
  | [w] => match ((lsv M w).bind datas).bind boolsD with
    | some bs => .ok (.d (.bool (if any then bs.any id else bs.all id))) M
    | none => .bad
  | _ => .bad
theorem oAll_at {ms : Ms} {M : Sto} {H : Hp} {w : Wv} {v : V} {bs : List Bool} (R : RelM K T ms M H) (e : ((lsv M w).bind datas).bind boolsD = some bs) (r : RepW K ms H v w) : ∃ a, v = .ref a ∧ SqL K H a (bs.map V.bl) := by
  cases q : lsv M w with
  | none => rw [q] at e; cases e
  | some us =>
    rw [q] at e
    have e : (datas us).bind boolsD = some bs := e
    cases q2 : datas us with
    | none => rw [q2] at e; cases e
    | some ds =>
      rw [q2] at e
      obtain ⟨a, vs, rfl, h1, h2⟩ := lsv_at R q r
      rw [bools_v e (datas_rep q2 h2)] at h1
      exact ⟨a, rfl, SqL.of h1⟩
theorem k_rall : OkRC K T (rAll K) (oAll false) := by
  intro ms M H ws vs Q R rv h
  unfold oAll at h
  split at h
  · split at h
    · rename_i bs e
      cases rv with
      | cons r t =>
        cases t
        obtain ⟨a, rfl, h1⟩ := oAll_at R e r
        exact ⟨a, bs, rfl, h1, h.here R (show RepW K ms H _ (.d (.bool _)) from .bl _)⟩
    · exact h.elim
  · exact h.elim
theorem k_rany : OkRC K T (rAny K) (oAll true) := by
  intro ms M H ws vs Q R rv h
  unfold oAll at h
  split at h
  · split at h
    · rename_i bs e
      cases rv with
      | cons r t =>
        cases t
        obtain ⟨a, rfl, h1⟩ := oAll_at R e r
        exact ⟨a, bs, rfl, h1, h.here R (show RepW K ms H _ (.d (.bool _)) from .bl _)⟩
    · exact h.elim
  · exact h.elim
def oMin2 : Fn := fun ws M => match ws with
  | [.d (.int i), .d (.int j)] => .ok (.d (.int (if j < i then j else i))) M
  | _ => .bad
theorem k_rmin2 : OkRC K T (fun xs H Q => ∃ i j, xs = [.int i, .int j] ∧ Q (.int (if j < i then j else i)) H) oMin2 := by
  intro ms M H ws vs Q R rv h
  unfold oMin2 at h
  split at h
  · cases rv with
    | cons r t =>
      cases t with
      | cons r2 t2 =>
        cases t2
        cases r
        cases r2
        exact ⟨_, _, rfl, h.here R (show RepW K ms H _ (.d (.int _)) from .int _)⟩
  · exact h.elim

/-! ### slices -/
abbrev Fp := Slo → Sto → Res (Option Int)
def tO (K : PySem.W.Frag) (T : List (Addr × Str)) (f : Fp) : TO := fun σ H Q => ∃ ms sd M, RelM K T ms M H ∧ SloR K ms H sd σ ∧ Wp K T ms H (fun _ _ a b => a = b) (f sd M) Q
def fNoP : Fp := fun _ M => .ok none M
def fPart (f : Fx) : Fp := fun sd M => (f sd M).bind fun w M1 => match w with
  | .d (.int i) => .ok (some i) M1
  | _ => .bad
theorem _root_.L2.PO.weak {e : Option Expr} {t t' : TO} (h : PO X e t) (w : ∀ σ H Q, t' σ H Q → t σ H Q) : PO X e t' := ⟨fun pins s σ H Q I q => h.run pins s σ H Q I (w σ H Q q)⟩
theorem fo_none : PO X none (tO K T fNoP) := po_none.weak fun σ H Q ⟨ms, sd, M, R, S, h⟩ => h.here R rfl
theorem fo_some {g : Fx} (h : PE X e (tF K T g)) : PO X (some e) (tO K T (fPart g)) := (po_some h).weak fun σ H Q ⟨ms, sd, M, R, S, h⟩ => tF_use R S h fun w M1 m1 H1 v h1 e1 R1 S1 r1 => by
  split at h1
  · cases r1
    exact ⟨_, rfl, h1.here R1 rfl⟩
  · exact h1.elim
abbrev Fs := Wv → Option Int → Option Int → Sto → Res Wv
def fSl (o : Fs) (f : Fx) (l u : Fp) : Fx := fun sd M => (f sd M).bind fun x M1 => (l sd M1).bind fun a M2 => (u sd M2).bind fun b M3 => o x a b M3
def OkSl (K : PySem.W.Frag) (T : List (Addr × Str)) (r : V → Option Int → Option Int → Hp → VK → Prop) (o : Fs) : Prop := ∀ (ms : Ms) (M : Sto) (H : Hp) (x : Wv) (v : V) (a b : Option Int) (Q : VK), RelM K T ms M H → RepW K ms H v x → Wp K T ms H (RepW K) (o x a b M) Q → r v a b H Q
theorem fe_sl {r : V → Option Int → Option Int → Hp → VK → Prop} {o : Fs} {g : Fx} {l u : Fp} {lo hi : Option Expr} {p2 : Pos} (hr : SlR X r) (ho : OkSl K T r o) (he : PE X e (tF K T g)) (hl : PO X lo (tO K T l)) (hu : PO X hi (tO K T u)) :
    PE X (.Subscript e (.Slice lo hi none p2) pos) (tF K T (fSl o g l u)) := (pe_slice hr he hl hu).weak fun σ H Q ⟨ms, sd, M, R, S, h⟩ => tF_use R S h fun w M1 m1 H1 v h1 e1 R1 S1 r1 =>
  ⟨m1, sd, M1, R1, S1, on_mono (on_bind h1) fun a M2 _ q m2 H2 a' e2 R2 ra => by
    cases ra
    refine ⟨m2, sd, M2, R2, S1.ext e2, on_mono (on_bind (Wp.go (rep := RepW K) (Q := Q) q e2)) fun b M3 _ q3 m3 H3 b' e3 R3 rb => ?_⟩
    cases rb
    exact ho m3 M3 H3 w v _ _ Q R3 ((r1.ext e2).ext e3) (Wp.go (rep := RepW K) (Q := Q) q3 e3)⟩
def cutL {α : Type} (xs : List α) (lo hi : Option Int) : List α := (xs.drop (HT.sIx xs.length 0 lo)).take (HT.sIx xs.length xs.length hi - HT.sIx xs.length 0 lo)
theorem cutL_v {ms : Ms} {H : Hp} {vs : List V} {ds : List PyData} (lo hi : Option Int) (h : DmAll K ms H vs ds) : DmAll K ms H (cutV vs lo hi) (cutL ds lo hi) := by
  unfold cutV cutL
  rw [dma_len h]
  exact dma_take _ (dma_drop _ h)
theorem laidT {pins : List (Addr × Obj)} {σ : L2.St} {H : Hp} {s : Shared} {its : List Value} {xs : List V} (I : Inv X pins σ H s) (r : Vals xs its) (hz : xs.length ≤ sizeLine) :
    Inv X pins σ (upd H s.heap.objs.size (.frz { cls := .type "tuple", data := .seq its.toArray } (.tup xs))) { s with heap := s.heap.push { cls := .type "tuple", data := .seq its.toArray } } :=
  I.laid (t' := s.toks) (fun _ _ q => Heap.get?_push_of_some _ q) (Nat.le_refl _) ⟨Heap.get?_push_size _ rfl, hz, its, r, IsTup.new _ _⟩
/-- t[lo:hi], the new tuple known -/
def rSlF (K : PySem.W.Frag) : V → Option Int → Option Int → Hp → VK → Prop := fun x lo hi H Q => ∃ a xs, x = .ref a ∧ SqT K H a xs ∧
  (HT.sIx xs.length 0 lo = 0 ∧ HT.sIx xs.length xs.length hi = xs.length → Q (.ref a) H) ∧ (¬ (HT.sIx xs.length 0 lo = 0 ∧ HT.sIx xs.length xs.length hi = xs.length) → ∀ (p : Addr) (o : Obj), H p = none → o.dict = none → Q (.ref p) (upd H p (.frz o (.tup (cutV xs lo hi)))))
theorem sl_tupF : SlR X (rSlF X.K) := by
  intro pins s σ H x v vl vu lo hi sl Q I rx hs pl pu h
  obtain ⟨a, xs, rfl, hx, q1, q2⟩ := h
  cases rx
  obtain ⟨its, r, ht, hz⟩ := I.tuple hx
  have hlen : its.toArray.size = xs.length := by rw [List.size_toArray]; exact r.length.symm
  by_cases hw : HT.sIx xs.length 0 lo = 0 ∧ HT.sIx xs.length xs.length hi = xs.length
  · refine ⟨"tuple", _, PyProof.Rows.slot_tuple_getitem.lookup, ht.typeIs, ?_⟩
    exact getItem_tuple_whole ht hs pl pu (by rw [hlen]; exact hw) ⟨.ref a, H, I, rfl, q1 hw⟩
  · refine ⟨"tuple", _, PyProof.Rows.slot_tuple_getitem.lookup, ht.typeIs, ?_⟩
    refine HT.getItem_tuple_cut ht hs pl pu (by rw [hlen]; exact hw) ?_ (by rw [hlen]; exact hz)
    rw [hlen]
    exact ⟨.ref s.heap.objs.size, _, laidT I ((r.drop (HT.sIx xs.length 0 lo)).take (HT.sIx xs.length xs.length hi - HT.sIx xs.length 0 lo)) (Nat.le_trans (cutV_length xs lo hi) hz), rfl, q2 hw _ _ (I.hok.fresh (Nat.le_refl _)) rfl⟩
theorem k_slF (K : PySem.W.Frag) (h : X.K = K := by rfl) : SlR X (rSlF K) := h ▸ sl_tupF
def oSlT : Fs := fun x a b M => match x with
  | .d (.tuple ds) => .ok (.d (.tuple (cutL ds a b))) M
  | _ => .bad
theorem cutL_whole {α : Type} {xs : List α} {lo hi : Option Int} (h : HT.sIx xs.length 0 lo = 0 ∧ HT.sIx xs.length xs.length hi = xs.length) : cutL xs lo hi = xs := by
  unfold cutL
  rw [h.1, h.2, List.drop_zero, Nat.sub_zero]
  exact List.take_of_length_le (Nat.le_refl _)
theorem k_slT : OkSl K T (rSlF K) oSlT := by
  intro ms M H x v a b Q R rx h
  unfold oSlT at h
  split at h
  · rename_i ds
    obtain ⟨p, vs, rfl, h1, h2⟩ := Dm.tupE rx
    refine ⟨p, vs, rfl, h1.sq, fun hw => ?_, fun hw q o hq ho => h ms _ _ (.new hq) (R.new hq) (dm_newT (cutL_v a b h2) hq (R.fresh hq) ho)⟩
    rw [dma_len h2] at hw
    rw [cutL_whole hw] at h
    exact h.here R rx
  · exact h.elim
def oSlL : Fs := fun x a b M => match x with
  | .s ns => .ok (.d (.list ((cutL ns a b).map .int))) M
  | w => match (lsv M w).bind datas with
    | some ds => .ok (.d (.list (cutL ds a b))) M
    | none => .bad
theorem ints_dm {ms : Ms} {H : Hp} : ∀ ns : List Int, DmAll K ms H (ns.map V.int) (ns.map PyData.int)
  | [] => .nil
  | n :: ns => .cons (.int n) (ints_dm ns)
theorem cutL_map {α β : Type} (f : α → β) (xs : List α) (lo hi : Option Int) : cutL (xs.map f) lo hi = (cutL xs lo hi).map f := by
  unfold cutL
  rw [List.length_map, ← List.map_drop, ← List.map_take]
theorem k_rslL : OkSl K T (rSlL K) oSlL := by
  intro ms M H x v a b Q R rx h
  unfold oSlL at h
  split at h
  · rename_i ns
    obtain ⟨p, rfl, hp⟩ := rx
    have hs : SqL K H p (ns.map V.int) := by
      rcases hp with ⟨o, e, _⟩ | e
      · exact .inl (.inr ⟨o, e⟩)
      · exact .inr e
    refine ⟨p, _, rfl, hs, fun q hq => h ms _ _ (.new hq) (R.new hq) ?_⟩
    have := cutL_v (K := K) (ms := ms) (H := H) a b (ints_dm ns)
    rw [cutL_map] at this
    exact dm_newL this hq (R.fresh hq)
  · split at h
    · rename_i ds e
      rename_i w _ _
      cases q : lsv M x with
      | none => rw [q] at e; cases e
      | some us =>
        rw [q] at e
        obtain ⟨p, vs, rfl, h1, h2⟩ := lsv_at R q rx
        exact ⟨p, vs, rfl, SqL.of h1, fun q hq => h ms _ _ (.new hq) (R.new hq) (dm_newL (cutL_v a b (datas_rep e h2)) hq (R.fresh hq))⟩
    · exact h.elim

/-! ### put together -/
def rCatF (K : PySem.W.Frag) : R2 := fun x y H Q => ∃ a b xs ys, x = .ref a ∧ y = .ref b ∧ SqT K H a xs ∧ SqT K H b ys ∧ xs.length + ys.length ≤ sizeLine ∧
  (xs = [] → Q (.ref b) H) ∧ (xs ≠ [] → ys = [] → Q (.ref a) H) ∧ (xs ≠ [] → ys ≠ [] → ∀ (p : Addr) (o : Obj), H p = none → o.dict = none → Q (.ref p) (upd H p (.frz o (.tup (xs ++ ys)))))
theorem op_catF : OpR X (binaryOp .Add) (rCatF X.K) := by
  intro pins s σ H x y v u Q I rx ry h
  obtain ⟨a, b, xs, ys, rfl, rfl, ha, hb, hz, q0, q1, q2⟩ := h
  cases rx
  cases ry
  obtain ⟨its, r1, p1, _⟩ := I.tuple ha
  obtain ⟨its2, r2, p2, _⟩ := I.tuple hb
  by_cases hx : xs = []
  · subst hx
    cases r1
    exact cat_tup0 p1 p2 ⟨.ref b, H, I, rfl, q0 rfl⟩
  · refine HT.cat_tup p1 p2 (fun z => hx (r1.nil_iff.mp z)) (fun z => ⟨.ref a, H, I, rfl, q1 hx (r2.nil_iff.mp z)⟩) (fun z => ?_) (by rw [← r1.length, ← r2.length]; exact hz)
    exact ⟨.ref s.heap.objs.size, _, laidT I (r1.append r2) (by rw [List.length_append]; exact hz), rfl, q2 hx (fun w => z (r2.nil_iff.mpr w)) _ _ (I.hok.fresh (Nat.le_refl _)) rfl⟩
theorem k_catF (K : PySem.W.Frag) (h : X.K = K := by rfl) : OpR X (binaryOp .Add) (rCatF K) := h ▸ op_catF
def oCatT : Fo := fun x y M => match x, y with
  | .d (.tuple xs), .d (.tuple ys) => if xs.length + ys.length ≤ sizeLine then .ok (.d (.tuple (xs ++ ys))) M else .bad
  | _, _ => .bad
theorem k2_catT : OkR2 K T (rCatF K) oCatT := by
  intro ms M H x y v u Q R rx ry h
  unfold oCatT at h
  split at h
  · rename_i xs ys
    split at h
    · rename_i hz
      obtain ⟨a, vs, rfl, h1, h2⟩ := Dm.tupE rx
      obtain ⟨b, us, rfl, g1, g2⟩ := Dm.tupE ry
      have l1 := dma_len h2
      have l2 := dma_len g2
      refine ⟨a, b, vs, us, rfl, rfl, h1.sq, g1.sq, by omega, fun z => ?_, fun _ z => ?_, fun _ _ p o hp ho => h ms _ _ (.new hp) (R.new hp) (dm_newT (dma_app h2 g2) hp (R.fresh hp) ho)⟩
      · subst z
        cases h2
        exact h.here R ry
      · subst z
        cases g2
        rw [List.append_nil] at h
        exact h.here R rx
    · exact h.elim
  · exact h.elim
def oCatL : Fo := fun x y M => match (lsv M x).bind datas, (lsv M y).bind datas with
  | some xs, some ys => if xs.length + ys.length ≤ sizeLine then .ok (.d (.list (xs ++ ys))) M else .bad
  | _, _ => .bad
theorem lsvd_at {ms : Ms} {M : Sto} {H : Hp} {w : Wv} {v : V} {ds : List PyData} (R : RelM K T ms M H) (e : (lsv M w).bind datas = some ds) (r : RepW K ms H v w) : ∃ a vs, v = .ref a ∧ H a = some (.lst vs) ∧ DmAll K ms H vs ds := by
  cases q : lsv M w with
  | none => rw [q] at e; cases e
  | some us =>
    rw [q] at e
    obtain ⟨p, vs, rfl, h1, h2⟩ := lsv_at R q r
    exact ⟨p, vs, rfl, h1, datas_rep e h2⟩
theorem k2_catL : OkR2 K T rCat oCatL := by
  intro ms M H x y v u Q R rx ry h
  unfold oCatL at h
  split at h
  · rename_i xs ys e1 e2
    split at h
    · rename_i hz
      obtain ⟨a, vs, rfl, h1, h2⟩ := lsvd_at R e1 rx
      obtain ⟨b, us, rfl, g1, g2⟩ := lsvd_at R e2 ry
      have l1 := dma_len h2
      have l2 := dma_len g2
      exact ⟨a, b, vs, us, rfl, rfl, h1, g1, by omega, fun p hp => h ms _ _ (.new hp) (R.new hp) (dm_newL (dma_app h2 g2) hp (R.fresh hp))⟩
    · exact h.elim
  · exact h.elim

/-! ### methods of lists -/
abbrev Fm := Wv → List Wv → Sto → Res Wv
def fMeth (o : Fm) (f : Fx) (g : Fa) : Fx := fun sd M => (f sd M).bind fun x M1 => (g sd M1).bind fun ws M2 => o x ws M2
/-- the object: a list that is known, before and behind the arguments -/
def lstW (M : Sto) (w : Wv) : Bool := (lsv M w).isSome
def fMethL (o : Fm) (f : Fx) (g : Fa) : Fx := fun sd M => (f sd M).bind fun x M1 => if lstW M1 x = true then (g sd M1).bind fun ws M2 => o x ws M2 else .bad
def OkRM (K : PySem.W.Frag) (T : List (Addr × Str)) (r : V → List V → Hp → VK → Prop) (o : Fm) : Prop := ∀ (ms : Ms) (M : Sto) (H : Hp) (x : Wv) (v : V) (ws : List Wv) (vs : List V) (Q : VK), RelM K T ms M H → RepW K ms H v x → RepAll K ms H vs ws → Wp K T ms H (RepW K) (o x ws M) Q → r v vs H Q
theorem lstW_ty {ms : Ms} {M : Sto} {H : Hp} {w : Wv} {v : V} (R : RelM K T ms M H) (h : lstW M w = true) (r : RepW K ms H v w) : tyV K "list" v H := by
  unfold lstW at h
  cases q : lsv M w with
  | none => rw [q] at h; cases h
  | some us =>
    obtain ⟨a, vs, rfl, h1, _⟩ := lsv_at R q r
    exact .inl ⟨rfl, vs, SqL.of h1⟩
theorem t_methL {r : V → List V → Hp → VK → Prop} {o : Fm} {g : Fx} {f : Fa} (hr : OkRM K T r o) : ∀ σ H Q, tF K T (fMethL o g f) σ H Q → tBM K "list" r (tF K T g) (tA K T f) σ H Q := fun σ H Q ⟨ms, sd, M, R, S, h⟩ =>
  tF_use R S h fun w M1 m1 H1 v h1 e1 R1 S1 r1 => by
    split at h1
    · rename_i hl
      exact ⟨lstW_ty R1 hl r1, tA_use R1 S1 h1 fun ws M2 m2 H2 vs h2 e2 R2 S2 r2 => hr m2 M2 H2 w v ws vs Q R2 (r1.ext e2) r2 h2⟩
    · exact h1.elim
def fMethL0 (o : Fm) (f : Fx) : Fx := fun sd M => (f sd M).bind fun x M1 => if lstW M1 x = true then o x [] M1 else .bad
theorem t_methL0 {r : V → List V → Hp → VK → Prop} {o : Fm} {g : Fx} (hr : OkRM K T r o) : ∀ σ H Q, tF K T (fMethL0 o g) σ H Q → tBM0 K "list" r (tF K T g) σ H Q := fun σ H Q ⟨ms, sd, M, R, S, h⟩ =>
  tF_use R S h fun w M1 m1 H1 v h1 e1 R1 S1 r1 => by
    split at h1
    · rename_i hl
      exact ⟨lstW_ty R1 hl r1, hr m1 M1 H1 w v [] [] Q R1 r1 .nil h1⟩
    · exact h1.elim
/-- a known list is set anew -/
def setL (M : Sto) (i : Nat) (ws : List Wv) : Sto := M.set i (.lst ws)
theorem setL_go {ms : Ms} {M : Sto} {H : Hp} {i : Nat} {a : Addr} {vs us : List V} {ws : List Wv} (R : RelM K T ms M H) (ha : ms.a[i]? = some a) (hw : H a = some (.lst us)) (r : RepAll K ms H vs ws) :
    Ext ms ms H (upd H a (.lst vs)) ∧ RelM K T ms (setL M i ws) (upd H a (.lst vs)) := by
  have hm : a ∈ ms.a := List.mem_of_getElem? ha
  have e : Ext ms ms H (upd H a (.lst vs)) := Ext.set hm notb_lst
  exact ⟨e, R.set ha (by rw [hw]; trivial) ⟨vs, upd_same, r.ext e⟩⟩
def oAppend : Fm := fun x ws M => match x, ws with
  | .r i, [w] => match M[i]? with
    | some (.lst us) => if us.length < sizeLine then .ok (.d .none) (setL M i (us ++ [w])) else .bad
    | _ => .bad
  | _, _ => .bad
theorem km_append : OkRM K T rAppend oAppend := by
  intro ms M H x v ws vs Q R rx rv h
  unfold oAppend at h
  split at h
  · rename_i i w
    split at h
    · rename_i us e
      split at h
      · rename_i hz
        cases rv with
        | cons r t =>
          cases t
          obtain ⟨a, ha, rfl⟩ := rx
          obtain ⟨ys, h1, h2⟩ := R.ob i a _ ha e
          obtain ⟨e1, R1⟩ := setL_go R ha h1 (repall_app h2 (.cons r .nil))
          exact ⟨a, ys, _, rfl, rfl, h1, by rw [repall_len h2]; exact hz, h ms _ .non e1 R1 (show RepW K ms _ .non (.d .none) from .non)⟩
      · exact h.elim
    · exact h.elim
  · exact h.elim
def oExtend : Fm := fun x ws M => match x, ws with
  | .r i, [w] => match M[i]?, lsv M w with
    | some (.lst us), some zs => if us.length + zs.length ≤ sizeLine then .ok (.d .none) (setL M i (us ++ zs)) else .bad
    | _, _ => .bad
  | _, _ => .bad
theorem km_extend : OkRM K T rExtend oExtend := by
  intro ms M H x v ws vs Q R rx rv h
  unfold oExtend at h
  split at h
  · rename_i i w
    split at h
    · rename_i us zs e e2
      split at h
      · rename_i hz
        cases rv with
        | cons r t =>
          cases t
          obtain ⟨a, ha, rfl⟩ := rx
          obtain ⟨ys, h1, h2⟩ := R.ob i a _ ha e
          obtain ⟨b, xs, rfl, g1, g2⟩ := lsv_at R e2 r
          obtain ⟨e1, R1⟩ := setL_go R ha h1 (repall_app h2 g2)
          exact ⟨a, b, ys, xs, rfl, rfl, h1, g1, by rw [repall_len h2, repall_len g2]; exact hz, h ms _ .non e1 R1 (show RepW K ms _ .non (.d .none) from .non)⟩
      · exact h.elim
    · exact h.elim
  · exact h.elim
def oPopAt : Fm := fun x ws M => match x, ws with
  | .r i, [.d (.int k)] => match M[i]? with
    | some (.lst us) => if -(2 ^ 63) ≤ k ∧ k < 2 ^ 63 then match seqIndex? k us.length with
      | some j => match us[j]? with
        | some y => .ok y (setL M i (us.eraseIdx j))
        | none => .bad
      | none => .bad else .bad
    | _ => .bad
  | _, _ => .bad
theorem km_popAt : OkRM K T rPopAt oPopAt := by
  intro ms M H x v ws vs Q R rx rv h
  unfold oPopAt at h
  split at h
  · rename_i i k
    split at h
    · rename_i us e
      split at h
      · rename_i hk
        split at h
        · rename_i j ej
          split at h
          · rename_i y ey
            cases rv with
            | cons r t =>
              cases t
              cases r
              obtain ⟨a, ha, rfl⟩ := rx
              obtain ⟨ys, h1, h2⟩ := R.ob i a _ ha e
              obtain ⟨z, hz, rz⟩ := repall_get h2 ey
              obtain ⟨e1, R1⟩ := setL_go R ha h1 (repall_erase j h2)
              exact ⟨a, ys, k, j, z, rfl, rfl, h1, hk.1, hk.2, by rw [repall_len h2]; exact ej, hz, h ms _ z e1 R1 (rz.ext e1)⟩
          · exact h.elim
        · exact h.elim
      · exact h.elim
    · exact h.elim
  · exact h.elim
end
end Fu

set_option Elab.async false
set_option linter.all false
set_option maxRecDepth 100000
set_option maxHeartbeats 4000000
/-! The functional reading, V: statements, targets, loops, comprehensions, defs. -/
namespace Fu
open PySem PySem.Spec PyProof.Rows L2 Dat LamX
inductive Out where
  | nx (sd : Slo) (M : Sto)
  | rt (w : Wv) (M : Sto)
  | bk (sd : Slo) (M : Sto)
  | ct (sd : Slo) (M : Sto)
  | ex (x : Xc) (M : Sto)
  | bad
abbrev Fst := Slo → Sto → Out
def Res.out {α : Type} (r : Res α) (k : α → Sto → Out) : Out := match r with
  | .ok a M => k a M
  | .ex x M => .ex x M
  | .bad => .bad
@[simp] theorem out_ok {α : Type} (a : α) (M : Sto) (k : α → Sto → Out) : (Res.ok a M).out k = k a M := rfl
@[simp] theorem out_bad {α : Type} (k : α → Sto → Out) : (Res.bad : Res α).out k = .bad := rfl
@[simp] theorem out_ex {α : Type} (x : Xc) (M : Sto) (k : α → Sto → Out) : (Res.ex x M : Res α).out k = .ex x M := rfl
def Ow (K : PySem.W.Frag) (T : List (Addr × Str)) (ms : Ms) (H : Hp) (o : Out) (D : Ends) : Prop := match o with
  | .nx sd M => ∀ ms' H' σ', Ext ms ms' H H' → RelM K T ms' M H' → SloR K ms' H' sd σ' → D.nx σ' H'
  | .rt w M => ∀ ms' H' v, Ext ms ms' H H' → RelM K T ms' M H' → RepW K ms' H' v w → D.rt v H'
  | .bk sd M => ∀ ms' H' σ', Ext ms ms' H H' → RelM K T ms' M H' → SloR K ms' H' sd σ' → D.bk σ' H'
  | .ct sd M => ∀ ms' H' σ', Ext ms ms' H H' → RelM K T ms' M H' → SloR K ms' H' sd σ' → D.ct σ' H'
  | .ex _ _ => False
  | .bad => False
def tS (K : PySem.W.Frag) (T : List (Addr × Str)) (f : Fst) : TS := fun D σ H => ∃ ms sd M, RelM K T ms M H ∧ SloR K ms H sd σ ∧ Ow K T ms H (f sd M) D
theorem _root_.L2.PS.weak {X : Cx} {e : Stmt} {t t' : TS} (h : PS X e t) (w : ∀ D σ H, t' D σ H → t D σ H) : PS X e t' := ⟨fun pins s σ H D I q => h.run pins s σ H D I (w D σ H q)⟩
theorem _root_.L2.PSs.weak {X : Cx} {e : List Stmt} {t t' : TS} (h : PSs X e t) (w : ∀ D σ H, t' D σ H → t D σ H) : PSs X e t' := ⟨fun pins s σ H D I q => h.run pins s σ H D I (w D σ H q)⟩
theorem _root_.L2.PG.weak {X : Cx} {e : Expr} {t t' : TG} (h : PG X e t) (w : ∀ v σ H Q, t' v σ H Q → t v σ H Q) : PG X e t' := ⟨fun pins s σ H v u Q I r q => h.run pins s σ H v u Q I r (w v σ H Q q)⟩
theorem _root_.L2.PI.weak {X : Cx} {tg e : Expr} {t t' : TI} (h : PI X tg e t) (w : ∀ σ H R, t' σ H R → t σ H R) : PI X tg e t' := ⟨fun pins s σ H R I q => h.run pins s σ H R I (w σ H R q)⟩
section
variable {K : PySem.W.Frag} {T : List (Addr × Str)} {X : Cx} {pos : Pos} {ms ms' : Ms} {H H' : Hp} {M : Sto} {sd : Slo} {σ : L2.St}
theorem Ow.go {o : Out} {D : Ends} (h : Ow K T ms H o D) (e : Ext ms ms' H H') : Ow K T ms' H' o D := by
  cases o with
  | nx sd M => exact fun m2 H2 s2 e2 => h m2 H2 s2 (e.trans e2)
  | rt w M => exact fun m2 H2 s2 e2 => h m2 H2 s2 (e.trans e2)
  | bk sd M => exact fun m2 H2 s2 e2 => h m2 H2 s2 (e.trans e2)
  | ct sd M => exact fun m2 H2 s2 e2 => h m2 H2 s2 (e.trans e2)
  | ex x M => exact h
  | bad => exact h
theorem Ow.nxt {D : Ends} (h : Ow K T ms H (.nx sd M) D) (R : RelM K T ms M H) (S : SloR K ms H sd σ) : D.nx σ H := h ms H σ (.refl _ _) R S
/-- go on behind an expression -/
theorem tF_out {f : Fx} {k : Wv → Sto → Out} {D : Ends} {Q : VK} (R : RelM K T ms M H) (S : SloR K ms H sd σ) (h : Ow K T ms H ((f sd M).out k) D)
    (g : ∀ w M1 m1 H1 v, Ow K T m1 H1 (k w M1) D → Ext ms m1 H H1 → RelM K T m1 M1 H1 → SloR K m1 H1 sd σ → RepW K m1 H1 v w → Q v H1) : tF K T f σ H Q := by
  refine ⟨ms, sd, M, R, S, ?_⟩
  cases q : f sd M with
  | ok w M1 =>
    rw [q] at h
    exact fun m1 H1 v e1 R1 r1 => g w M1 m1 H1 v (Ow.go (o := k w M1) h e1) e1 R1 (S.ext e1) r1
  | ex x M => rw [q] at h; exact h.elim
  | bad => rw [q] at h; exact h.elim
theorem tT_out {f : Ft} {k : Bool → Sto → Out} {D : Ends} {Q : Bool → Hp → Prop} (R : RelM K T ms M H) (S : SloR K ms H sd σ) (h : Ow K T ms H ((f sd M).out k) D)
    (g : ∀ w M1 m1 H1, Ow K T m1 H1 (k w M1) D → Ext ms m1 H H1 → RelM K T m1 M1 H1 → SloR K m1 H1 sd σ → Q w H1) : tT K T f σ H Q := by
  refine ⟨ms, sd, M, R, S, ?_⟩
  cases q : f sd M with
  | ok w M1 =>
    rw [q] at h
    exact fun m1 H1 v e1 R1 r1 => by
      cases r1
      exact g w M1 m1 H1 (Ow.go (o := k w M1) h e1) e1 R1 (S.ext e1)
  | ex x M => rw [q] at h; exact h.elim
  | bad => rw [q] at h; exact h.elim
theorem tA_out {f : Fa} {k : List Wv → Sto → Out} {D : Ends} {Q : List V → Hp → Prop} (R : RelM K T ms M H) (S : SloR K ms H sd σ) (h : Ow K T ms H ((f sd M).out k) D)
    (g : ∀ w M1 m1 H1 v, Ow K T m1 H1 (k w M1) D → Ext ms m1 H H1 → RelM K T m1 M1 H1 → SloR K m1 H1 sd σ → RepAll K m1 H1 v w → Q v H1) : tA K T f σ H Q := by
  refine ⟨ms, sd, M, R, S, ?_⟩
  cases q : f sd M with
  | ok w M1 =>
    rw [q] at h
    exact fun m1 H1 v e1 R1 r1 => g w M1 m1 H1 v (Ow.go (o := k w M1) h e1) e1 R1 (S.ext e1) r1
  | ex x M => rw [q] at h; exact h.elim
  | bad => rw [q] at h; exact h.elim

/-! ### statements -/
def fSkip : Fst := fun sd M => .nx sd M
def fSeq (f g : Fst) : Fst := fun sd M => match f sd M with
  | .nx sd1 M1 => g sd1 M1
  | o => o
variable {st : Stmt} {rest a b : List Stmt} {f g : Fst} {e : Expr} {fe : Fx}
theorem fs_nil : PSs X [] (tS K T fSkip) := pss_nil.weak fun D σ H ⟨ms, sd, M, R, S, h⟩ => h.nxt R S
theorem fs_cons (h1 : PS X st (tS K T f)) (h2 : PSs X rest (tS K T g)) : PSs X (st :: rest) (tS K T (fSeq f g)) := (pss_cons h1 h2).weak fun D σ H ⟨ms, sd, M, R, S, h⟩ => by
  refine ⟨ms, sd, M, R, S, ?_⟩
  unfold fSeq at h
  cases q : f sd M with
  | nx sd1 M1 =>
    rw [q] at h
    exact fun m1 H1 σ1 e1 R1 S1 => ⟨m1, sd1, M1, R1, S1, Ow.go (o := g sd1 M1) h e1⟩
  | rt w M => rw [q] at h; exact h
  | bk sd M => rw [q] at h; exact h
  | ct sd M => rw [q] at h; exact h
  | ex x M => rw [q] at h; exact h
  | bad => rw [q] at h; exact h
theorem fs_one (h1 : PS X st (tS K T f)) : PSs X [st] (tS K T f) := pss_one h1
theorem fs_pass : PS X (.Pass pos) (tS K T fSkip) := ps_pass.weak fun D σ H ⟨ms, sd, M, R, S, h⟩ => h.nxt R S
def fBreak : Fst := fun sd M => .bk sd M
def fCont : Fst := fun sd M => .ct sd M
theorem fs_break : PS X (.Break pos) (tS K T fBreak) := ps_break.weak fun D σ H ⟨ms, sd, M, R, S, h⟩ => h ms H σ (.refl _ _) R S
theorem fs_cont : PS X (.Continue pos) (tS K T fCont) := ps_continue.weak fun D σ H ⟨ms, sd, M, R, S, h⟩ => h ms H σ (.refl _ _) R S
def fEx (f : Fx) : Fst := fun sd M => (f sd M).out fun _ M1 => .nx sd M1
theorem fs_expr (he : PE X e (tF K T fe)) (hs : swapsWith e none pos.line X.env = pure false := by rfl) : PS X (.Expr e pos) (tS K T (fEx fe)) := (ps_expr he hs).weak fun D σ H ⟨ms, sd, M, R, S, h⟩ =>
  tF_out R S h fun w M1 m1 H1 v h1 e1 R1 S1 r1 => h1.nxt R1 S1
def fRet (f : Fx) : Fst := fun sd M => (f sd M).out fun w M1 => .rt w M1
theorem fs_ret (he : PE X e (tF K T fe)) : PS X (.Return (some e) pos) (tS K T (fRet fe)) := (ps_ret he).weak fun D σ H ⟨ms, sd, M, R, S, h⟩ =>
  tF_out R S h fun w M1 m1 H1 v h1 e1 R1 S1 r1 => h1 m1 H1 v (.refl _ _) R1 r1
def fRetN : Fst := fun _ M => .rt (.d .none) M
theorem fs_retN : PS X (.Return none pos) (tS K T fRetN) := ps_retN.weak fun D σ H ⟨ms, sd, M, R, S, h⟩ => h ms H .non (.refl _ _) R (show RepW K ms H .non (.d .none) from .non)
def fIfS (c : Ft) (f g : Fst) : Fst := fun sd M => (c sd M).out fun b M1 => if b = true then f sd M1 else g sd M1
theorem fs_if {c : Expr} {cc : Ft} (hc : PT X c (tT K T cc)) (ha : PSs X a (tS K T f)) (hb : PSs X b (tS K T g)) : PS X (.If c a b pos) (tS K T (fIfS cc f g)) := (ps_if hc ha hb).weak fun D σ H ⟨ms, sd, M, R, S, h⟩ =>
  tT_out R S h fun w M1 m1 H1 h1 e1 R1 S1 => by
    cases w with
    | true => exact ⟨m1, sd, M1, R1, S1, h1⟩
    | false => exact ⟨m1, sd, M1, R1, S1, h1⟩

/-! ### targets -/
/-- what is handed to a target: a value, or a pair just made -/
inductive Itm where
  | one (w : Wv)
  | pair (x y : Wv)
def RepI (K : PySem.W.Frag) (ms : Ms) (H : Hp) (v : V) : Itm → Prop
  | .one w => RepW K ms H v w
  | .pair x y => ∃ (a : Addr) (u z : V), v = .ref a ∧ H a = some (.tup [u, z]) ∧ a ∉ ms ∧ RepW K ms H u x ∧ RepW K ms H z y
def Itm.val : Itm → Option Wv
  | .one w => some w
  | .pair (.d x) (.d y) => if pairlike [x, y] = true then some (.d (.tuple [x, y])) else none
  | _ => none
def Itm.parts : Itm → Option (List Wv)
  | .one (.d (.tuple ds)) => some (ds.map .d)
  | .one _ => none
  | .pair x y => some [x, y]
theorem val_rep {it : Itm} {v : V} {w : Wv} (h : it.val = some w) (r : RepI K ms H v it) : RepW K ms H v w := by
  unfold Itm.val at h
  split at h
  · cases h
    exact r
  · rename_i x y
    split at h
    · rename_i hp
      cases h
      obtain ⟨a, u, z, rfl, h1, h2, h3, h4⟩ := r
      exact (show Dm K ms H _ _ from .tup (.inr ⟨hp, h1, h2⟩) (.cons h3 (.cons h4 .nil)))
    · cases h
  · cases h
theorem parts_rep {it : Itm} {v : V} {ws : List Wv} (h : it.parts = some ws) (r : RepI K ms H v it) : ∃ a vs, v = .ref a ∧ SqT K H a vs ∧ RepAll K ms H vs ws := by
  unfold Itm.parts at h
  split at h
  · cases h
    obtain ⟨a, vs, rfl, h1, h2⟩ := Dm.tupE r
    exact ⟨a, vs, rfl, h1.sq, rep_datas h2⟩
  · cases h
  · cases h
    obtain ⟨a, u, z, rfl, h1, h2, h3, h4⟩ := r
    exact ⟨a, _, rfl, SqT.of h1, .cons h3 (.cons h4 .nil)⟩
inductive Tg where
  | nm (i : Nat)
  | tp (ts : List Tg)
mutual
def gOf (K : PySem.W.Frag) : Tg → TG
  | .nm i => gName i
  | .tp ts => gTup K ts.length (gsOf K ts)
def gsOf (K : PySem.W.Frag) : List Tg → TGs
  | [] => gNil
  | t :: ts => gCons (gOf K t) (gsOf K ts)
end
mutual
def bindT : Tg → Itm → Slo → Option Slo
  | .nm i, it, sd => it.val.map fun w => sd.set i (some w)
  | .tp ts, it, sd => it.parts.bind fun ws => bindTs ts ws sd
def bindTs : List Tg → List Wv → Slo → Option Slo
  | [], [], sd => some sd
  | t :: ts, w :: ws, sd => (bindT t (.one w) sd).bind fun sd1 => bindTs ts ws sd1
  | _, _, _ => none
end
mutual
def slT : Tg → List Nat
  | .nm i => [i]
  | .tp ts => slTs ts
def slTs : List Tg → List Nat
  | [] => []
  | t :: ts => slT t ++ slTs ts
end
/-- but at the slots is nothing turns -/
def SameBut (is : List Nat) (σ σ' : L2.St) : Prop := σ'.length = σ.length ∧ ∀ j, j ∉ is → σ'[j]? = σ[j]?
theorem SameBut.refl (is : List Nat) (σ : L2.St) : SameBut is σ σ := ⟨rfl, fun _ _ => rfl⟩
theorem SameBut.trans {is js : List Nat} {σ σ1 σ2 : L2.St} (a : SameBut is σ σ1) (b : SameBut js σ1 σ2) : SameBut (is ++ js) σ σ2 :=
  ⟨b.1.trans a.1, fun j h => (b.2 j fun z => h (List.mem_append_right _ z)).trans (a.2 j fun z => h (List.mem_append_left _ z))⟩
theorem bindTs_len : ∀ {ts : List Tg} {ws : List Wv} {sd sd' : Slo}, bindTs ts ws sd = some sd' → ts.length = ws.length
  | [], [], _, _, _ => rfl
  | t :: ts, w :: ws, sd, sd', h => by
    simp only [bindTs] at h
    cases q : bindT t (.one w) sd with
    | none => rw [q] at h; cases h
    | some sd1 =>
      rw [q] at h
      rw [List.length_cons, List.length_cons, bindTs_len (ts := ts) (ws := ws) h]
  | [], _ :: _, _, _, h => by simp [bindTs] at h
  | _ :: _, [], _, _, h => by simp [bindTs] at h
mutual
theorem bind_go : ∀ (t : Tg) (it : Itm) (v : V) (sd sd' : Slo) (σ : L2.St) (Q : L2.St → Hp → Prop), bindT t it sd = some sd' → SloR K ms H sd σ → RepI K ms H v it → (∀ σ', SloR K ms H sd' σ' → SameBut (slT t) σ σ' → Q σ' H) → gOf K t v σ H Q
  | .nm i, it, v, sd, sd', σ, Q, h, S, r, q => by
    simp only [bindT] at h
    cases e : it.val with
    | none => rw [e] at h; cases h
    | some w =>
      rw [e] at h
      cases h
      simp only [gOf]
      refine q _ (SloR.set (val_rep e r) i S) ⟨by rw [List.length_set], fun j hj => ?_⟩
      have : i ≠ j := fun z => hj (by simp [slT, z])
      rw [List.getElem?_set_ne this]
  | .tp ts, it, v, sd, sd', σ, Q, h, S, r, q => by
    simp only [bindT] at h
    cases e : it.parts with
    | none => rw [e] at h; cases h
    | some ws =>
      rw [e] at h
      have h : bindTs ts ws sd = some sd' := h
      obtain ⟨a, vs, rfl, h1, h2⟩ := parts_rep e r
      simp only [gOf]
      exact ⟨a, vs, rfl, h1, by rw [repall_len h2, bindTs_len h], binds_go ts ws vs sd sd' σ Q h S h2 fun σ' s1 s2 => q σ' s1 (by simpa [slT] using s2)⟩
theorem binds_go : ∀ (ts : List Tg) (ws : List Wv) (vs : List V) (sd sd' : Slo) (σ : L2.St) (Q : L2.St → Hp → Prop), bindTs ts ws sd = some sd' → SloR K ms H sd σ → RepAll K ms H vs ws → (∀ σ', SloR K ms H sd' σ' → SameBut (slTs ts) σ σ' → Q σ' H) → gsOf K ts vs σ H Q
  | [], [], vs, sd, sd', σ, Q, h, S, r, q => by
    simp only [bindTs, Option.some.injEq] at h
    subst h
    cases r
    simp only [gsOf]
    exact ⟨rfl, q σ S (SameBut.refl _ _)⟩
  | t :: ts, w :: ws, vs, sd, sd', σ, Q, h, S, r, q => by
    simp only [bindTs] at h
    cases e : bindT t (.one w) sd with
    | none => rw [e] at h; cases h
    | some sd1 =>
      rw [e] at h
      cases r with
      | cons r rr =>
        simp only [gsOf]
        refine ⟨_, _, rfl, bind_go t (.one w) _ sd sd1 σ _ e S r fun σ1 S1 b1 => binds_go ts ws _ sd1 sd' σ1 _ h S1 rr fun σ2 S2 b2 => q σ2 S2 ?_⟩
        simpa [slTs] using b1.trans b2
  | [], _ :: _, vs, sd, sd', σ, Q, h, S, r, q => by simp [bindTs] at h
  | _ :: _, [], vs, sd, sd', σ, Q, h, S, r, q => by simp [bindTs] at h
end
theorem fg_name {i : Nat} {x : Str} (hN : X.N.Nodup) (hi : X.N[i]? = some x) (hx : Loc X.env.scope x) (hf : X.fn x = true ∨ X.env.scope.names.lookup x = some .local := by first | exact .inl rfl | exact .inr rfl | assumption) : PG X (.Name x pos) (gOf K (.nm i)) := by
  simp only [gOf]
  exact pg_name hN hi hx hf
theorem fgs_nil : PGs X [] (gsOf K []) := by
  simp only [gsOf]
  exact pgs_nil
theorem fgs_cons {e : Expr} {es : List Expr} {t : Tg} {ts : List Tg} (h1 : PG X e (gOf K t)) (h2 : PGs X es (gsOf K ts))
    (hs : (assignEach (e :: es) X.env).map (·.2) = assign e X.env :: (assignEach es X.env).map (·.2) := by rfl) : PGs X (e :: es) (gsOf K (t :: ts)) := by
  simp only [gsOf]
  exact pgs_cons h1 h2 hs
theorem fg_tup (K : PySem.W.Frag) {es : List Expr} {k : Nat} {ts : List Tg} (h : PGs X es (gsOf K ts)) (hc : X.calm = true := by rfl)
    (hn : (assignEach es X.env).length = ts.length := by rfl) (hst : (assignEach es X.env).findIdx? (·.1) = none := by rfl) (hk : X.K = K := by rfl) : PG X (.Tuple es k pos) (gOf K (.tp ts)) := by
  subst hk
  simp only [gOf]
  exact pg_tup hc h hn hst
/-- target = value -/
def fAsg (f : Fx) (t : Tg) : Fst := fun sd M => (f sd M).out fun w M1 => match bindT t (.one w) sd with
  | some sd1 => .nx sd1 M1
  | none => .bad
theorem t_asg {t : Tg} : ∀ D σ H, tS K T (fAsg fe t) D σ H → tAsg (tF K T fe) (gOf K t) D σ H := fun D σ H ⟨ms, sd, M, R, S, h⟩ =>
  tF_out R S h fun w M1 m1 H1 v h1 e1 R1 S1 r1 => by
    split at h1
    · rename_i sd1 e
      exact bind_go t (.one w) v sd sd1 σ _ e S1 r1 fun σ' S' _ => h1.nxt R1 S'
    · exact h1.elim
theorem fs_asg {tg : Expr} {t : Tg} (he : PE X e (tF K T fe)) (hg : PG X tg (gOf K t)) (hs : swapsWithSole [tg] e pos.line X.env = pure false := by rfl) (hw : swappedStores [tg] e X.env = pure none := by rfl)
    (h1 : (assignEach [tg] X.env).map (·.2) = [assign tg X.env] := by rfl) : PS X (.Assign [tg] e pos) (tS K T (fAsg fe t)) := (ps_asg he hg hs hw h1).weak t_asg
def fSet (i : Nat) (f : Fx) : Fst := fun sd M => (f sd M).out fun w M1 => .nx (sd.set i (some w)) M1
theorem t_set {i : Nat} : ∀ D σ H, tS K T (fSet i fe) D σ H → tAsg (tF K T fe) (gName i) D σ H := fun D σ H ⟨ms, sd, M, R, S, h⟩ =>
  tF_out R S h fun w M1 m1 H1 v h1 e1 R1 S1 r1 => h1.nxt R1 (SloR.set r1 i S1)
theorem fs_set {i : Nat} {x : Str} {pos' : Pos} (hN : X.N.Nodup) (hi : X.N[i]? = some x) (hx : Loc X.env.scope x) (he : PE X e (tF K T fe)) (hs : swapsWith e (some (.Name x pos')) pos.line X.env = pure false := by rfl) (hf : X.fn x = true ∨ X.env.scope.names.lookup x = some .local := by first | exact .inl rfl | exact .inr rfl | assumption) :
    PS X (.Assign [.Name x pos'] e pos) (tS K T (fSet i fe)) := (ps_set hN hi hx he hs hf).weak t_set
/-- a, b = x, y -/
def fPar (i j : Nat) (f : Fa) : Fst := fun sd M => (f sd M).out fun ws M1 => match ws with
  | [w, u] => .nx ((sd.set i (some w)).set j (some u)) M1
  | _ => .bad
theorem fs_par {i j : Nat} {x y : Str} {a b : Expr} {fa : Fa} {px py pt : Pos} {kt k2 pt2} (hc : X.calm = true) (hN : X.N.Nodup) (hi : X.N[i]? = some x) (hj : X.N[j]? = some y) (hij : i ≠ j)
    (hx : X.env.scope.names.lookup x = some .local) (hy : X.env.scope.names.lookup y = some .local) (ha : PA X [a, b] (tA K T fa))
    (hw : swappedStores [.Tuple [.Name x px, .Name y py] kt pt] (.Tuple [a, b] k2 pt2) X.env = pure (some [x, y]))
    (hs : swapsWithSole [.Tuple [.Name x px, .Name y py] kt pt] (.Tuple [a, b] k2 pt2) pos.line X.env = pure false := by rfl) :
    PS X (.Assign [.Tuple [.Name x px, .Name y py] kt pt] (.Tuple [a, b] k2 pt2) pos) (tS K T (fPar i j fa)) := (ps_par hc hN hi hj hij hx hy ha hw hs).weak fun D σ H ⟨ms, sd, M, R, S, h⟩ =>
  tA_out R S h fun ws M1 m1 H1 vs h1 e1 R1 S1 r1 => by
    split at h1
    · cases r1 with
      | cons r t =>
        cases t with
        | cons r2 t2 =>
          cases t2
          exact ⟨_, _, rfl, h1.nxt R1 (SloR.set r2 j (SloR.set r i S1))⟩
    · exact h1.elim
/-- o[k] = e, o a known list -/
def fPut (f o k : Fx) : Fst := fun sd M => (f sd M).out fun w M1 => (o sd M1).out fun x M2 => (k sd M2).out fun y M3 => match x, y with
  | .r i, .d (.int n) => match M3[i]? with
    | some (.lst us) => match ixN us.length n with
      | some j => .nx sd (setL M3 i (us.set j w))
      | none => .bad
    | _ => .bad
  | _, _ => .bad
theorem fs_put {oe ie : Expr} {fo fk : Fx} {p1 : Pos} (he : PE X e (tF K T fe)) (ho : PE X oe (tF K T fo)) (hi : PE X ie (tF K T fk))
    (ha : ∀ v, assign (.Subscript oe ie p1) X.env v = (do
      let ov ← holding [v] (eval oe X.env)
      let iv ← holding [v, ov] (eval ie X.env)
      standAt p1
      holding [v, ov, iv] (setItem ov iv v)
      release [v, ov, iv] []) := by intro _; rfl)
    (hs : swapsWithSole [.Subscript oe ie p1] e pos.line X.env = pure false := by rfl) (hw : swappedStores [.Subscript oe ie p1] e X.env = pure none := by rfl)
    (h1 : (assignEach [.Subscript oe ie p1] X.env).map (·.2) = [assign (.Subscript oe ie p1) X.env] := by rfl) : PS X (.Assign [.Subscript oe ie p1] e pos) (tS K T (fPut fe fo fk)) :=
  (ps_asg he (pg_sub ho hi set_list ha) hs hw h1).weak fun D σ H ⟨ms, sd, M, R, S, h⟩ =>
    tF_out R S h fun w M1 m1 H1 v h1 e1 R1 S1 r1 => tF_out R1 S1 h1 fun x M2 m2 H2 u h2 e2 R2 S2 r2 => tF_out R2 S2 h2 fun y M3 m3 H3 z h3 e3 R3 S3 r3 => by
      split at h3
      · rename_i i n
        split at h3
        · rename_i us eo
          split at h3
          · rename_i j ej
            cases r3
            obtain ⟨a, ha', rfl⟩ := r2.ext e3
            obtain ⟨ys, g1, g2⟩ := R3.ob i a _ ha' eo
            obtain ⟨e4, R4⟩ := setL_go R3 ha' g1 (repall_set ((r1.ext e2).ext e3) j g2)
            exact ⟨a, ys, n, j, rfl, rfl, g1, by rw [repall_len g2]; exact ej, (h3.go e4).nxt R4 (S3.ext e4)⟩
          · exact h3.elim
        · exact h3.elim
      · exact h3.elim
end
end Fu

set_option Elab.async false
set_option linter.all false
set_option maxRecDepth 100000
set_option maxHeartbeats 4000000
/-! The functional reading, VI: what is walked; for; comprehensions. -/
namespace Fu
open PySem PySem.Spec PyProof.Rows L2 Dat LamX
/-- the things walked; the list that has to stay as it is meanwhile -/
structure Its where
  its : List Itm
  gd : Option (Nat × List Wv)
def okG (gd : Option (Nat × List Wv)) (M : Sto) : Prop := match gd with
  | none => True
  | some (i, ws) => M[i]? = some (.lst ws)
abbrev Fi := Slo → Sto → Res Its
section
variable {K : PySem.W.Frag} {T : List (Addr × Str)} {X : Cx} {pos : Pos} {ms ms' : Ms} {H H' : Hp} {M : Sto} {sd : Slo} {σ : L2.St}
theorem Keeps.trans {m1 m2 : Ms} {H1 H2 : Hp} (a : Keeps ms m1 H H1) (b : Keeps m1 m2 H1 H2) : Keeps ms m2 H H2 :=
  ⟨⟨fun c o h n t => b.fr c o (a.fr c o h n t) (a.ni c o h n t) t, fun c o h n t => b.ni c o (a.fr c o h n t) (a.ni c o h n t) t⟩, fun i x h => b.nu i x (a.nu i x h), fun q h => b.pp q (a.pp q h)⟩
theorem Keeps.refl : Keeps ms ms H H := ⟨⟨fun _ _ h _ _ => h, fun _ _ _ n _ => n⟩, fun _ _ h => h, fun _ h => h⟩
def Wlk (K : PySem.W.Frag) (T : List (Addr × Str)) (ms : Ms) (H : Hp) (J : It) (I : Its) : Prop := ∀ ms2 M2 H2, Keeps ms ms2 H H2 → RelM K T ms2 M2 H2 → okG I.gd M2 → J.stop I.its.length H2 ∧
  ∀ i it, I.its[i]? = some it → J.go i H2 ∧ ∀ x H3, J.yld i H2 x H3 → Ext ms2 ms2 H2 H3 ∧ RelM K T ms2 M2 H3 ∧ RepI K ms2 H3 x it
theorem Wlk.go {J : It} {I : Its} (w : Wlk K T ms H J I) (k : Keeps ms ms' H H') : Wlk K T ms' H' J I := fun m2 M2 H2 k2 R2 g => w m2 M2 H2 (k.trans k2) R2 g
def tI (K : PySem.W.Frag) (T : List (Addr × Str)) (f : Fi) : TI := fun σ H R => ∃ ms sd M, RelM K T ms M H ∧ SloR K ms H sd σ ∧ (f sd M).on fun I M' => ∀ ms' H' J, Ext ms ms' H H' → RelM K T ms' M' H' → Wlk K T ms' H' J I → R J H'

/-! ### lists, tuples, ranges -/
theorem walk_at {J : It} {vs : List V} {ws : List Wv} {G : Hp → Prop} (w : Walk J vs.length G (YAt vs)) (R : RelM K T ms M H) (r : RepAll K ms H vs ws) (hg : G H) : J.stop (ws.map Itm.one).length H ∧
    ∀ i it, (ws.map Itm.one)[i]? = some it → J.go i H ∧ ∀ x H3, J.yld i H x H3 → Ext ms ms H H3 ∧ RelM K T ms M H3 ∧ RepI K ms H3 x it := by
  have hl := repall_len r
  refine ⟨by rw [List.length_map, ← hl]; exact w.stops H hg, fun i it hi => ?_⟩
  rw [List.getElem?_map] at hi
  cases q : ws[i]? with
  | none => rw [q] at hi; cases hi
  | some u =>
    rw [q] at hi
    cases hi
    have li : i < vs.length := by rw [hl]; exact (List.getElem?_eq_some_iff.mp q).1
    refine ⟨w.goes i H li hg, fun x H3 y => ?_⟩
    obtain ⟨rfl, hx⟩ := w.yields i H x H3 li hg y
    obtain ⟨v, hv, rv⟩ := repall_get r q
    rw [hx] at hv
    cases hv
    exact ⟨.refl _ _, R, rv⟩
/-- a list -/
def fiL (f : Fx) : Fi := fun sd M => (f sd M).bind fun w M1 => match w with
  | .d (.list ds) => .ok ⟨(ds.map Wv.d).map .one, none⟩ M1
  | .r i => match M1[i]? with
    | some (.lst ws) => .ok ⟨ws.map .one, some (i, ws)⟩ M1
    | _ => .bad
  | _ => .bad
theorem tF_its {f : Fx} {k : Wv → Sto → Res Its} {R : It → Hp → Prop} {Q : VK} (R0 : RelM K T ms M H) (S : SloR K ms H sd σ) (h : ((f sd M).bind k).on fun I M' => ∀ ms' H' J, Ext ms ms' H H' → RelM K T ms' M' H' → Wlk K T ms' H' J I → R J H')
    (g : ∀ w M1 m1 H1 v, (k w M1).on (fun I M' => ∀ ms' H' J, Ext m1 ms' H1 H' → RelM K T ms' M' H' → Wlk K T ms' H' J I → R J H') → Ext ms m1 H H1 → RelM K T m1 M1 H1 → SloR K m1 H1 sd σ → RepW K m1 H1 v w → Q v H1) : tF K T f σ H Q :=
  ⟨ms, sd, M, R0, S, on_mono (on_bind h) fun w M1 _ q m1 H1 v e1 R1 r1 => g w M1 m1 H1 v (on_mono q fun I M2 _ p m2 H2 J e2 => p m2 H2 J (e1.trans e2)) e1 R1 (S.ext e1) r1⟩
theorem tA_its {f : Fa} {k : List Wv → Sto → Res Its} {R : It → Hp → Prop} {Q : List V → Hp → Prop} (R0 : RelM K T ms M H) (S : SloR K ms H sd σ) (h : ((f sd M).bind k).on fun I M' => ∀ ms' H' J, Ext ms ms' H H' → RelM K T ms' M' H' → Wlk K T ms' H' J I → R J H')
    (g : ∀ w M1 m1 H1 v, (k w M1).on (fun I M' => ∀ ms' H' J, Ext m1 ms' H1 H' → RelM K T ms' M' H' → Wlk K T ms' H' J I → R J H') → Ext ms m1 H H1 → RelM K T m1 M1 H1 → SloR K m1 H1 sd σ → RepAll K m1 H1 v w → Q v H1) : tA K T f σ H Q :=
  ⟨ms, sd, M, R0, S, on_mono (on_bind h) fun w M1 _ q m1 H1 v e1 R1 r1 => g w M1 m1 H1 v (on_mono q fun I M2 _ p m2 H2 J e2 => p m2 H2 J (e1.trans e2)) e1 R1 (S.ext e1) r1⟩
theorem t_iL {f : Fx} : ∀ σ H R, tI K T (fiL f) σ H R → iList K (tF K T f) σ H R := fun σ H R ⟨ms, sd, M, R0, S, h⟩ =>
  tF_its R0 S h fun w M1 m1 H1 v h1 e1 R1 S1 r1 => by
    split at h1
    · rename_i ds
      obtain ⟨a, vs, rfl, g1, g2⟩ := Dm.lstE r1
      exact ⟨a, rfl, ⟨vs, g1.sq⟩, h1 m1 H1 _ (.refl _ _) R1 fun m2 M2 H2 k2 R2 _ => walk_at (walk_list (a := a)) R2 ((rep_datas g2).keep k2) (g1.keep k2.toKeep).sq⟩
    · rename_i i
      split at h1
      · rename_i ws eo
        obtain ⟨a, ha, rfl⟩ := r1
        obtain ⟨vs, g1, g2⟩ := R1.ob i a _ ha eo
        refine ⟨a, rfl, ⟨vs, SqL.of g1⟩, h1 m1 H1 _ (.refl _ _) R1 fun m2 M2 H2 k2 R2 g => ?_⟩
        have g : M2[i]? = some (.lst ws) := g
        obtain ⟨us, e2, r2⟩ := R2.ob i a _ (k2.nu i a ha) g
        exact walk_at (walk_list (a := a)) R2 r2 (SqL.of e2)
      · exact h1.elim
    · exact h1.elim
/-- a tuple -/
def fiT (f : Fx) : Fi := fun sd M => (f sd M).bind fun w M1 => match w with
  | .d (.tuple ds) => .ok ⟨(ds.map Wv.d).map .one, none⟩ M1
  | _ => .bad
theorem t_iT {f : Fx} : ∀ σ H R, tI K T (fiT f) σ H R → iTup K (tF K T f) σ H R := fun σ H R ⟨ms, sd, M, R0, S, h⟩ =>
  tF_its R0 S h fun w M1 m1 H1 v h1 e1 R1 S1 r1 => by
    split at h1
    · obtain ⟨a, vs, rfl, g1, g2⟩ := Dm.tupE r1
      exact ⟨a, rfl, ⟨vs, g1.sq⟩, h1 m1 H1 _ (.refl _ _) R1 fun m2 M2 H2 k2 R2 _ => walk_at (walk_tup (a := a)) R2 ((rep_datas g2).keep k2) (g1.keep k2.toKeep).sq⟩
    · exact h1.elim
theorem fi_L {tg e : Expr} {f : Fx} (K : PySem.W.Frag) (he : PE X e (tF K T f)) (h : X.K = K := by rfl) : PI X tg e (tI K T (fiL f)) := by
  subst h
  exact (pi_list he).weak t_iL
theorem fi_T {tg e : Expr} {f : Fx} (K : PySem.W.Frag) (he : PE X e (tF K T f)) (h : X.K = K := by rfl) : PI X tg e (tI K T (fiT f)) := by
  subst h
  exact (pi_tup he).weak t_iT
/-- numbers -/
def rngW (lo : Int) (n : Nat) : List Wv := (List.range n).map fun i => .d (.int (lo + (i : Nat)))
theorem walk_rng {lo : Int} {n : Nat} : Wlk K T ms H (Itr lo n) ⟨(rngW lo n).map .one, none⟩ := fun m2 M2 H2 k2 R2 _ => by
  refine ⟨by show n ≤ ((rngW lo n).map Itm.one).length; simp [rngW], fun i it hi => ?_⟩
  have hi : ((rngW lo n).map Itm.one)[i]? = some it := hi
  simp only [rngW, List.map_map, List.getElem?_map] at hi
  cases q : (List.range n)[i]? with
  | none => rw [q] at hi; cases hi
  | some u =>
    rw [q] at hi
    cases hi
    obtain ⟨l, e⟩ := List.getElem?_eq_some_iff.mp q
    have li : i < n := by simpa using l
    have eu : u = i := by simpa using e.symm
    subst eu
    exact ⟨li, fun x H3 y => by
      obtain ⟨rfl, rfl⟩ := y
      exact ⟨.refl _ _, R2, (show Dm K m2 H3 _ _ from .int _)⟩⟩
def fiR1 (f : Fa) : Fi := fun sd M => (f sd M).bind fun ws M1 => match ws with
  | [.d (.int j)] => if -(2 ^ 62) ≤ j ∧ j < 2 ^ 62 then .ok ⟨(rngW 0 j.toNat).map .one, none⟩ M1 else .bad
  | _ => .bad
theorem t_iR1 {f : Fa} : ∀ σ H R, tI K T (fiR1 f) σ H R → iRng1 (tA K T f) σ H R := fun σ H R ⟨ms, sd, M, R0, S, h⟩ =>
  tA_its R0 S h fun ws M1 m1 H1 vs h1 e1 R1 S1 r1 => by
    split at h1
    · split at h1
      · rename_i hj
        cases r1 with
        | cons r t =>
          cases t
          cases r
          exact ⟨_, rfl, hj.1, hj.2, h1 m1 H1 _ (.refl _ _) R1 walk_rng⟩
      · exact h1.elim
    · exact h1.elim
theorem fi_R1 {tg a : Expr} {f : Fa} {p pos : Pos} (hg : Gl X "range") (hm : X.mg "range" = none) (ha : PA X [a] (tA K T f)) (hs : starEach [a] X.env = [(false, eval a X.env)] := by rfl) : PI X tg (.Call (.Name "range" p) [a] [] pos) (tI K T (fiR1 f)) := (pi_range1 hg hm ha hs).weak t_iR1
def fiR2 (f : Fa) : Fi := fun sd M => (f sd M).bind fun ws M1 => match ws with
  | [.d (.int i), .d (.int j)] => if -(2 ^ 62) ≤ i ∧ i < 2 ^ 62 ∧ -(2 ^ 62) ≤ j ∧ j < 2 ^ 62 then .ok ⟨(rngW i (j - i).toNat).map .one, none⟩ M1 else .bad
  | _ => .bad
theorem t_iR2 {f : Fa} : ∀ σ H R, tI K T (fiR2 f) σ H R → iRng2 (tA K T f) σ H R := fun σ H R ⟨ms, sd, M, R0, S, h⟩ =>
  tA_its R0 S h fun ws M1 m1 H1 vs h1 e1 R1 S1 r1 => by
    split at h1
    · split at h1
      · rename_i hj
        cases r1 with
        | cons r t =>
          cases t with
          | cons r2 t2 =>
            cases t2
            cases r
            cases r2
            exact ⟨_, _, rfl, hj, h1 m1 H1 _ (.refl _ _) R1 walk_rng⟩
      · exact h1.elim
    · exact h1.elim
theorem fi_R2 {tg a b : Expr} {f : Fa} {p pos : Pos} (hg : Gl X "range") (hm : X.mg "range" = none) (ha : PA X [a, b] (tA K T f)) (hs : starEach [a, b] X.env = [(false, eval a X.env), (false, eval b X.env)] := by rfl) (hs2 : starEach [b] X.env = [(false, eval b X.env)] := by rfl) :
    PI X tg (.Call (.Name "range" p) [a, b] [] pos) (tI K T (fiR2 f)) := (pi_range2 hg hm ha hs hs2).weak t_iR2

/-! ### for -/
open Classical in
noncomputable def forL (gd : Option (Nat × List Wv)) (g : Tg) (body : Fst) : List Itm → Slo → Sto → Out
  | [], sd, M => if okG gd M then .nx sd M else .bad
  | it :: its, sd, M => if okG gd M then match bindT g it sd with
    | some sd1 => match body sd1 M with
      | .nx sd2 M2 => forL gd g body its sd2 M2
      | .ct sd2 M2 => forL gd g body its sd2 M2
      | .bk sd2 M2 => .nx sd2 M2
      | o => o
    | none => .bad else .bad
noncomputable def fFor (it : Fi) (g : Tg) (body : Fst) : Fst := fun sd M => (it sd M).out fun I M1 => forL I.gd g body I.its sd M1
theorem t_for {it : Fi} {g : Tg} {body : Fst} : ∀ D σ H, tS K T (fFor it g body) D σ H → tFor (tI K T it) (gOf K g) (tS K T body) D σ H := fun D σ H ⟨ms, sd, M, R0, S, h⟩ => by
  refine ⟨ms, sd, M, R0, S, ?_⟩
  unfold fFor at h
  cases q : it sd M with
  | ex x M1 => rw [q] at h; exact h.elim
  | bad => rw [q] at h; exact h.elim
  | ok I M1 =>
    rw [q] at h
    intro m1 H1 J e1 R1 Wl
    have h : Ow K T m1 H1 (forL I.gd g body I.its sd M1) D := Ow.go (o := forL I.gd g body I.its sd M1) h e1
    have S1 := S.ext e1
    refine ⟨fun i m σ2 H2 => m = I.its.length - i ∧ i ≤ I.its.length ∧ ∃ m2 sd2 M2, Ext m1 m2 H1 H2 ∧ RelM K T m2 M2 H2 ∧ SloR K m2 H2 sd2 σ2 ∧ Ow K T m2 H2 (forL I.gd g body (I.its.drop i) sd2 M2) D,
      ⟨_, rfl, Nat.zero_le _, m1, sd, M1, .refl _ _, R1, S1, by rw [List.drop_zero]; exact h⟩, ?_⟩
    rintro i m σ2 H2 ⟨rfl, hi, m2, sd2, M2, e2, R2, S2, h2⟩
    by_cases hlt : i < I.its.length
    · have ei : I.its[i]? = some I.its[i] := List.getElem?_eq_getElem hlt
      rw [List.drop_eq_getElem_cons hlt] at h2
      simp only [forL] at h2
      by_cases hg : okG I.gd M2
      · rw [if_pos hg] at h2
        obtain ⟨hgo, hy⟩ := (Wl m2 M2 H2 e2.keeps R2 hg).2 i _ ei
        refine .inr ⟨hgo, fun σ' H' => ∃ m', m' < I.its.length - i ∧ m' = I.its.length - (i + 1) ∧ i + 1 ≤ I.its.length ∧ ∃ m2 sd2 M2, Ext m1 m2 H1 H' ∧ RelM K T m2 M2 H' ∧ SloR K m2 H' sd2 σ' ∧ Ow K T m2 H' (forL I.gd g body (I.its.drop (i + 1)) sd2 M2) D, fun σ' H' ⟨m', z1, z2, z3, z4⟩ => ⟨m', z1, z2, z3, z4⟩, fun x H3 y => ?_⟩
        obtain ⟨e3, R3, r3⟩ := hy x H3 y
        cases q2 : bindT g I.its[i] sd2 with
        | none => rw [q2] at h2; exact h2.elim
        | some sd3 =>
          rw [q2] at h2
          refine bind_go g _ x sd2 sd3 σ2 _ q2 (S2.ext e3) r3 fun σ3 S3 _ => ⟨m2, sd3, M2, R3, S3, ?_⟩
          have again : ∀ {sd4 : Slo} {M4 : Sto}, Ow K T m2 H2 (forL I.gd g body (I.its.drop (i + 1)) sd4 M4) D → ∀ ms' H' σ', Ext m2 ms' H3 H' → RelM K T ms' M4 H' → SloR K ms' H' sd4 σ' →
              ∃ m', m' < I.its.length - i ∧ m' = I.its.length - (i + 1) ∧ i + 1 ≤ I.its.length ∧ ∃ m2 sd2 M2, Ext m1 m2 H1 H' ∧ RelM K T m2 M2 H' ∧ SloR K m2 H' sd2 σ' ∧ Ow K T m2 H' (forL I.gd g body (I.its.drop (i + 1)) sd2 M2) D := fun {sd4 M4} hh ms' H' σ' e5 R5 S5 =>
            ⟨_, by omega, rfl, hlt, ms', sd4, M4, e2.trans (e3.trans e5), R5, S5, Ow.go (o := forL I.gd g body (I.its.drop (i + 1)) sd4 M4) hh (e3.trans e5)⟩
          cases q3 : body sd3 M2 with
          | nx sd4 M4 => simp only [q3] at h2; exact again h2
          | ct sd4 M4 => simp only [q3] at h2; exact again h2
          | bk sd4 M4 => simp only [q3] at h2; exact fun ms' H' σ' e5 R5 S5 => h2 ms' H' σ' (e3.trans e5) R5 S5
          | rt w M4 => simp only [q3] at h2; exact fun ms' H' v e5 => h2 ms' H' v (e3.trans e5)
          | ex x M4 => simp only [q3] at h2; exact h2
          | bad => simp only [q3] at h2; exact h2
      · rw [if_neg hg] at h2
        exact h2.elim
    · have ei : i = I.its.length := by omega
      subst ei
      rw [List.drop_length] at h2
      simp only [forL] at h2
      by_cases hg : okG I.gd M2
      · rw [if_pos hg] at h2
        exact .inl ⟨(Wl m2 M2 H2 e2.keeps R2 hg).1, h2.nxt R2 S2⟩
      · rw [if_neg hg] at h2
        exact h2.elim
theorem fs_for {iter tg : Expr} {body : List Stmt} {it : Fi} {g : Tg} {fb : Fst} (hp : PassesOwn (model X.prog X.w) X.A X.env X.xe) (hc : X.calm = true) (hi : PI X tg iter (tI K T it)) (hg : PG X tg (gOf K g)) (hb : PSs X body (tS K T fb))
    (hs : ∀ x, foldedSetIterable iter X.env x = pure x := by intro _; rfl) : PS X (.For tg iter body [] pos) (tS K T (fFor it g fb)) := (ps_for hp hc hi hg hb hs).weak t_for
end
end Fu


set_option Elab.async false
set_option linter.all false
set_option maxRecDepth 100000
set_option maxHeartbeats 4000000
/-! The functional reading, VII: comprehensions. -/
namespace Fu
open PySem PySem.Spec PyProof.Rows L2 Dat LamX
section
variable {K : PySem.W.Frag} {T : List (Addr × Str)} {X : Cx} {pos : Pos} {ms ms' : Ms} {H H' : Hp} {M : Sto} {sd : Slo} {σ : L2.St}
theorem Ext.unhold {D : Addr} (e : Ext (ms.hold D) ms' H H') : ∃ m3 : Ms, ms' = m3.hold D ∧ Ext ms m3 H H' := by
  obtain ⟨a, r, p⟩ := ms'
  have hr : r = D :: ms.r := e.hr
  have hp : p = ms.p := e.hp
  subst hr hp
  exact ⟨⟨a, ms.r, ms.p⟩, rfl, e.pre, rfl, rfl, e.fr, e.lv⟩
theorem Ext.putD {ms0 : Ms} {H0 : Hp} {D : Addr} {o : HO} (e : Ext ms0 ms H0 H) (h : H0 D = none) : Ext ms0 ms H0 (upd H D o) :=
  ⟨e.pre, e.hr, e.hp, fun a u q n t => by
    rw [upd_ne (ne_of_none q h)]
    exact e.fr a u q n t, fun a u q t => by
    rw [upd_ne (ne_of_none q h)]
    exact e.lv a u q t⟩
/-! ### slots wiped -/
def wipeD (sd : Slo) : List Nat → Slo
  | [] => sd
  | v :: vs => (wipeD sd vs).set v none
theorem SloR.wipe (S : SloR K ms H sd σ) : ∀ vs : List Nat, SloR K ms H (wipeD sd vs) (wipe σ vs)
  | [] => S
  | v :: vs => by
    have h := SloR.wipe S vs
    unfold wipeD L2.wipe
    generalize wipeD sd vs = a at h
    generalize L2.wipe σ vs = b at h
    clear S
    induction h generalizing v with
    | nil => exact .nil
    | cons r t ih =>
      cases v with
      | zero => exact .cons (fun x e => by cases e) t
      | succ v => exact .cons r (ih v)
theorem wipe_in {σ : L2.St} : ∀ {vs : List Nat} {j : Nat}, j ∈ vs → (wipe σ vs)[j]? = σ[j]?.map fun _ => none
  | v :: vs, j, h => by
    unfold wipe
    by_cases e : v = j
    · subst e
      by_cases l : v < (wipe σ vs).length
      · rw [List.getElem?_set_self l]
        rw [wipe_length] at l
        rw [List.getElem?_eq_getElem l]
        rfl
      · rw [List.getElem?_eq_none (by rw [List.length_set]; omega)]
        rw [wipe_length] at l
        rw [List.getElem?_eq_none (by omega)]
        rfl
    · rw [List.getElem?_set_ne e]
      rcases List.mem_cons.mp h with z | z
      · exact absurd z.symm e
      · exact wipe_in z
theorem wipe_same {is vs : List Nat} {σ σ' : L2.St} (b : SameBut is (wipe σ vs) σ') (hs : ∀ i ∈ is, i ∈ vs) : wipe σ' vs = wipe σ vs := by
  refine List.ext_getElem? fun j => ?_
  by_cases h : j ∈ vs
  · rw [wipe_in h, wipe_in h]
    have l : σ'.length = σ.length := by rw [b.1, wipe_length]
    by_cases lj : j < σ.length
    · rw [List.getElem?_eq_getElem lj, List.getElem?_eq_getElem (by omega)]
      rfl
    · rw [List.getElem?_eq_none (by omega), List.getElem?_eq_none (by omega)]
  · rw [wipe_out h]
    exact b.2 j fun z => h (hs j z)

/-! ### one for, over any -/
open Classical in
noncomputable def lcL (gd : Option (Nat × List Wv)) (g : Tg) (t : Ft) (f : Fx) (sd : Slo) : List Itm → Sto → List PyData → Res (List PyData)
  | [], M, acc => if okG gd M then .ok acc M else .bad
  | it :: its, M, acc => if okG gd M then match bindT g it sd with
    | some sd1 => (t sd1 M).bind fun b M1 => if b = true then (f sd1 M1).bind fun w M2 => match w with
        | .d d => if acc.length < sizeLine then lcL gd g t f sd its M2 (acc ++ [d]) else .bad
        | _ => .bad else lcL gd g t f sd its M1 acc
    | none => .bad else .bad
/-- the loop: from a state with the new list held at D on -/
theorem lc_loop {J : It} {I : Its} {g : Tg} {t : Ft} {f : Fx} {vs : List Nat} {D : Addr} {m1 m0 : Ms} {H1 H0 : Hp} {M0 : Sto} {acc0 : List V} {ds0 : List PyData} {Fin : Hp → Prop} (hsub : ∀ i ∈ slT g, i ∈ vs)
    (nD : H1 D = none) (e0 : Ext m1 m0 H1 H0) (R0 : RelM K T (m0.hold D) M0 H0) (h0 : H0 D = some (.lst acc0)) (d0 : DmAll K (m0.hold D) H0 acc0 ds0) (S0 : SloR K (m0.hold D) H0 (wipeD sd vs) (wipe σ vs)) (Wl : Wlk K T (m0.hold D) H0 J I)
    (fin : (lcL I.gd g t f (wipeD sd vs) I.its M0 ds0).on fun ds M' => ∀ m2 H2 acc, Ext m1 m2 H1 H2 → Keeps (m0.hold D) (m2.hold D) H0 H2 → RelM K T (m2.hold D) M' H2 → H2 D = some (.lst acc) → DmAll K (m2.hold D) H2 acc ds → Fin H2) :
    ∃ W : Nat → Nat → Hp → Prop, (∃ m, W 0 m H0) ∧ ∀ i m H, W i m H → (J.stop i H ∧ Fin H) ∨ (J.go i H ∧ ∃ Nx : Hp → Prop, (∀ H', Nx H' → ∃ m', m' < m ∧ W (i + 1) m' H') ∧ ∀ x H', J.yld i H x H' → gOf K g x (wipe σ vs) H' fun σ2 H2 => wipe σ2 vs = wipe σ vs ∧ tT K T t σ2 H2 fun b H3 =>
      if b = true then tF K T f σ2 H3 fun y H4 => ∃ acc, H4 D = some (.lst acc) ∧ acc.length < sizeLine ∧ Nx (upd H4 D (.lst (acc ++ [y]))) else Nx H3) := by
  refine ⟨fun i m H2 => m = I.its.length - i ∧ i ≤ I.its.length ∧ ∃ m2 M2 acc ds, Ext m1 m2 H1 H2 ∧ Keeps (m0.hold D) (m2.hold D) H0 H2 ∧ RelM K T (m2.hold D) M2 H2 ∧ H2 D = some (.lst acc) ∧ DmAll K (m2.hold D) H2 acc ds ∧
      (lcL I.gd g t f (wipeD sd vs) (I.its.drop i) M2 ds).on fun ds M' => ∀ m2 H2 acc, Ext m1 m2 H1 H2 → Keeps (m0.hold D) (m2.hold D) H0 H2 → RelM K T (m2.hold D) M' H2 → H2 D = some (.lst acc) → DmAll K (m2.hold D) H2 acc ds → Fin H2,
    ⟨_, rfl, Nat.zero_le _, m0, M0, acc0, ds0, e0, .refl, R0, h0, d0, by rw [List.drop_zero]; exact fin⟩, ?_⟩
  rintro i m H2 ⟨rfl, hi, m2, M2, acc, ds, e2, k2, R2, hD, da, h2⟩
  have Dr : D ∈ (m2.hold D).r := List.mem_cons_self
  by_cases hlt : i < I.its.length
  · have ei : I.its[i]? = some I.its[i] := List.getElem?_eq_getElem hlt
    rw [List.drop_eq_getElem_cons hlt] at h2
    simp only [lcL] at h2
    by_cases hg : okG I.gd M2
    · rw [if_pos hg] at h2
      obtain ⟨hgo, hy⟩ := (Wl (m2.hold D) M2 H2 k2 R2 hg).2 i _ ei
      refine .inr ⟨hgo, fun H' => ∃ m', m' < I.its.length - i ∧ m' = I.its.length - (i + 1) ∧ i + 1 ≤ I.its.length ∧ ∃ m2 M2 acc ds, Ext m1 m2 H1 H' ∧ Keeps (m0.hold D) (m2.hold D) H0 H' ∧ RelM K T (m2.hold D) M2 H' ∧ H' D = some (.lst acc) ∧ DmAll K (m2.hold D) H' acc ds ∧
        (lcL I.gd g t f (wipeD sd vs) (I.its.drop (i + 1)) M2 ds).on fun ds M' => ∀ m2 H2 acc, Ext m1 m2 H1 H2 → Keeps (m0.hold D) (m2.hold D) H0 H2 → RelM K T (m2.hold D) M' H2 → H2 D = some (.lst acc) → DmAll K (m2.hold D) H2 acc ds → Fin H2,
        fun H' ⟨m', z1, z2, z3, z4⟩ => ⟨m', z1, z2, z3, z4⟩, fun x H3 y => ?_⟩
      obtain ⟨e3, R3, r3⟩ := hy x H3 y
      cases q2 : bindT g I.its[i] (wipeD sd vs) with
      | none => rw [q2] at h2; exact h2.elim
      | some sd3 =>
        rw [q2] at h2
        have S2 : SloR K (m2.hold D) H2 (wipeD sd vs) (wipe σ vs) := S0.keep k2
        refine bind_go g _ x _ sd3 _ _ q2 (S2.ext e3) r3 fun σ3 S3 b3 => ⟨wipe_same b3 hsub, ?_⟩
        -- the test
        refine ⟨m2.hold D, sd3, M2, R3, S3, on_mono (on_bind h2) fun b M4 _ h4 m4 H4 b' e4 R4 rb => ?_⟩
        cases rb
        obtain ⟨m5, rfl, e5⟩ := e4.unhold
        obtain ⟨m3, ez, e3'⟩ := e3.unhold
        have ez : m3 = m2 := by
          obtain ⟨a3, r3, p3⟩ := m3
          obtain ⟨a2, r2, p2⟩ := m2
          simp only [Ms.hold, Ms.mk.injEq, List.cons.injEq, true_and] at ez
          rw [ez.1, ez.2.1, ez.2.2]
        subst ez
        have hD4 : H4 D = some (.lst acc) := by
          have n : D ∉ m3.a := fun z => R2.free.2 (.inl z)
          have q3 := e3'.fr D _ hD n fun ps z => by cases z
          exact e5.fr D _ q3 n fun ps z => by cases z
        have e15 := e2.trans (e3'.trans e5)
        have k24 : Keeps (m3.hold D) (m5.hold D) H2 H4 := e3.keeps.trans e4.keeps
        cases b with
        | false =>
          simp only [Bool.false_eq_true, if_false] at h4 ⊢
          exact ⟨_, by omega, rfl, hlt, m5, M4, acc, ds, e15, k2.trans k24, R4, hD4, da.keep k24.toKeep, h4⟩
        | true =>
          simp only [if_true] at h4 ⊢
          refine ⟨m5.hold D, sd3, M4, R4, S3.ext e4, on_mono (on_bind h4) fun w M6 _ h6 m6 H6 v e6 R6 r6 => ?_⟩
          split at h6
          · split at h6
            · rename_i hz
              obtain ⟨m7, rfl, e7⟩ := e6.unhold
              have n5 : D ∉ m5.a := fun z => R4.free.2 (.inl z)
              have hD6 : H6 D = some (.lst acc) := e7.fr D _ hD4 n5 fun ps z => by cases z
              have k46 : Keeps (m3.hold D) (m7.hold D) H2 H6 := k24.trans e6.keeps
              have la := dma_len da
              have Dm7 : D ∈ (m7.hold D) := .inr List.mem_cons_self
              have kD : Keeps (m7.hold D) (m7.hold D) H6 (upd H6 D (.lst (acc ++ [v]))) := keeps_held Dm7
              refine ⟨acc, hD6, by omega, _, by omega, rfl, hlt, m7, M6, acc ++ [v], _, (e15.trans e7).putD nD, (k2.trans k46).trans kD, R6.held hD6 List.mem_cons_self, upd_same, dma_app ((da.keep k46.toKeep).keep kD.toKeep) (.cons (show Dm K _ _ _ _ from RepW.keep r6 kD) .nil), h6⟩
            · exact h6.elim
          · exact h6.elim
    · rw [if_neg hg] at h2
      exact h2.elim
  · have ei : i = I.its.length := by omega
    subst ei
    rw [List.drop_length] at h2
    simp only [lcL] at h2
    by_cases hg : okG I.gd M2
    · rw [if_pos hg] at h2
      exact .inl ⟨(Wl (m2.hold D) M2 H2 k2 R2 hg).1, h2 m2 H2 acc e2 k2 R2 hD da⟩
    · rw [if_neg hg] at h2
      exact h2.elim
noncomputable def fLc (it : Fi) (g : Tg) (t : Ft) (f : Fx) (vs : List Nat) : Fx := fun sd M => (it sd M).bind fun I M1 => (lcL I.gd g t f (wipeD sd vs) I.its M1 []).bind fun ds M2 => .ok (.d (.list ds)) M2
theorem t_lc {it : Fi} {g : Tg} {t : Ft} {f : Fx} {vs : List Nat} (hsub : ∀ i ∈ slT g, i ∈ vs) : ∀ σ H Q, tF K T (fLc it g t f vs) σ H Q → tLc (tI K T it) (gOf K g) (tT K T t) (tF K T f) vs σ H Q := fun σ H Q ⟨ms, sd, M, R0, S, h⟩ => by
  refine ⟨ms, sd, M, R0, S, on_mono (on_bind h) fun I M1 _ h1 m1 H1 J e1 R1 Wl D hD => ?_⟩
  have k1 := keeps_hold (ms := m1) (o := .lst []) hD
  refine lc_loop (m1 := m1) (m0 := m1) (H1 := H1) (M0 := M1) (acc0 := []) (ds0 := []) (sd := sd) hsub hD ((Ext.refl m1 H1).putD hD) (R1.hold hD) upd_same .nil (((S.ext e1).keep k1).wipe vs) (Wl.go k1) ?_
  refine on_mono (on_bind h1) fun ds M2 _ h2 m2 H2 acc e2 k2 R2 hD2 da => ?_
  obtain ⟨R3, n3⟩ := R2.free
  exact h2 m2 H2 (.ref D) (e1.trans e2) R3 (show Dm K m2 H2 (.ref D) (.list ds) from .lst ⟨hD2, n3⟩ (da.keep keeps_free.toKeep))

/-! ### the rules -/
def fYes : Ft := fun _ M => .ok true M
theorem _root_.L2.PTs.weak {X : Cx} {e : List Expr} {t t' : TT} (h : PTs X e t) (w : ∀ σ H Q, t' σ H Q → t σ H Q) : PTs X e t' := ⟨fun pins s σ H Q I q => h.run pins s σ H Q I (w σ H Q q)⟩
theorem fts_nil : PTs X [] (tT K T fYes) := pts_nil.weak fun σ H Q ⟨ms, sd, M, R, S, h⟩ => h.here R rfl
theorem fts_one {c : Expr} {t : Ft} (h : PT X c (tT K T t)) : PTs X [c] (tT K T t) := pts_one h
theorem fe_lc {elt tg iter : Expr} {ifs : List Expr} {scope : Scope} {own : List (Str × Nat)} {it : Fi} {g : Tg} {t : Ft} {f : Fx} (hc : X.calm = true) (hN : X.N.Nodup) (hi : PI X tg iter (tI K T it)) (ok : BlkOk X.N X.env.scope scope own) (hsub : ∀ i ∈ slT g, i ∈ own.map (·.2))
    (hg : ∀ (s : Shared) (H : Hp) (C : Addr) (cl : List (Str × Addr)) (fp : List Addr), PG (X.blk s H scope (compEnvC scope cl C X.env) fp) tg (gOf K g)) (ht : ∀ (s : Shared) (H : Hp) (C : Addr) (cl : List (Str × Addr)) (fp : List Addr), PTs (X.blk s H scope (compEnvC scope cl C X.env) fp) ifs (tT K T t))
    (he : ∀ (s : Shared) (H : Hp) (C : Addr) (cl : List (Str × Addr)) (fp : List Addr), PE (X.blk s H scope (compEnvC scope cl C X.env) fp) elt (tF K T f)) (hs : ∀ x, foldedSetIterable iter X.env x = pure x := by intro _; rfl) :
    PE X (.ListComp elt [⟨tg, iter, ifs, 0⟩] scope pos) (tF K T (fLc it g t f (own.map (·.2)))) := (pe_lc hc hN hi ok hg ht he hs).weak (t_lc hsub)
theorem fs_setLc {i : Nat} {y : Str} {py : Pos} {elt tg iter : Expr} {ifs : List Expr} {scope : Scope} {own : List (Str × Nat)} {spos : Pos} {it : Fi} {g : Tg} {t : Ft} {f : Fx} (hc : X.calm = true) (hN : X.N.Nodup) (hy : X.N[i]? = some y) (hyl : X.env.scope.names.lookup y = some .local)
    (hsw : swapsWith (.ListComp elt [⟨tg, iter, ifs, 0⟩] scope pos) (some (.Name y py)) spos.line X.env = pure true) (hi : PI X tg iter (tI K T it)) (ok : BlkOk X.N X.env.scope scope own) (hsub : ∀ i ∈ slT g, i ∈ own.map (·.2))
    (hg : ∀ (s : Shared) (H : Hp) (C : Addr) (cl : List (Str × Addr)) (fp : List Addr), PG (X.blk s H scope (compEnvC scope cl C X.env) fp) tg (gOf K g)) (ht : ∀ (s : Shared) (H : Hp) (C : Addr) (cl : List (Str × Addr)) (fp : List Addr), PTs (X.blk s H scope (compEnvC scope cl C X.env) fp) ifs (tT K T t))
    (he : ∀ (s : Shared) (H : Hp) (C : Addr) (cl : List (Str × Addr)) (fp : List Addr), PE (X.blk s H scope (compEnvC scope cl C X.env) fp) elt (tF K T f)) (hs : ∀ x, foldedSetIterable iter X.env x = pure x := by intro _; rfl) :
    PS X (.Assign [.Name y py] (.ListComp elt [⟨tg, iter, ifs, 0⟩] scope pos) spos) (tS K T (fSet i (fLc it g t f (own.map (·.2))))) :=
  (ps_setLc hc hN hy hyl hsw hi ok hg ht he hs).weak fun D σ H h => t_lc hsub σ H _ (t_set D σ H h)
end
end Fu

set_option Elab.async false
set_option linter.all false
set_option maxRecDepth 100000
set_option maxHeartbeats 4000000
/-! The functional reading, VIII: defs; what they leave; dicts. -/
namespace Fu
open PySem PySem.Spec PyProof.Rows L2 Dat LamX
/-- a def by its body: n parameters, m slots -/
def fnOf (n m : Nat) (B : Fst) : Fn := fun ws M => if ws.length = n then match B (ws.map some ++ List.replicate (m - n) none) M with
  | .nx _ M' => .ok (.d .none) M'
  | .rt w M' => .ok w M'
  | .ex x M' => .ex x M'
  | _ => .bad else .bad
section
variable {P : Program} {w : World} {K : PySem.W.Frag} {mg : Str → Option Value} {base : Heap} {T : List (Addr × Str)} {X : Cx} {pos : Pos} {ms ms' : Ms} {H H' : Hp} {M : Sto} {sd : Slo} {σ : L2.St}
theorem fn_go {n : Nat} {N : List Str} {B : Fst} {vs : List V} {Q : VK} {E : XK} (h : spF K T (fnOf n N.length B) vs H Q E) : vs.length = n ∧ tS K T B { nx := fun _ H' => Q .non H', rt := Q } (start N vs) H := by
  obtain ⟨ms, ws, M, R, rv, q⟩ := h
  unfold fnOf at q
  split at q
  · rename_i hn
    have hl := repall_len rv
    refine ⟨by omega, ms, _, M, R, SloR.start (N.length - vs.length) rv, ?_⟩
    rw [show N.length - vs.length = N.length - n by omega]
    cases e : B (ws.map some ++ List.replicate (N.length - n) none) M with
    | nx sd1 M1 =>
      rw [e] at q
      exact fun m1 H1 σ1 e1 R1 S1 => q m1 H1 .non e1 R1 (show RepW K m1 H1 .non (.d .none) from .non)
    | rt w1 M1 => rw [e] at q; exact q
    | ex x M1 => rw [e] at q; exact q.elim
    | bk sd1 M1 => rw [e] at q; exact q.elim
    | ct sd1 M1 => rw [e] at q; exact q.elim
    | bad => rw [e] at q; exact q.elim
  · exact q.elim
theorem calF {x : Str} {st : Stmt} {N ps : List Str} {k n : Nat} {B : Fst} (D : DefG K mg x st) (S : FnScope N ps (defScope st)) (hn : ps.length = n) (b : ∀ f fd, Fun K x x st f fd → Binds K fd ps [])
    (body : ∀ (f : Addr) (cdv : Value) (A : Around) (outer : List Env) (s : Shared) (H : Hp) (E : XK), Gd A → Room k (A.deeper (envOfC x (defScope st) s.heap.objs.size f cdv)) →
      PSs (cxOf CX0 P w K mg base N x (defScope st) f cdv A outer s H E).nox (defBody st) (tS K T B)) : CalG P w K mg base (k + 1) x (spF K T (fnOf n N.length B)) [] :=
  calG D S b (fun vs H Q E h => by rw [hn]; exact (fn_go h).1) fun f cdv A outer s H vs Q E gd hr h => ⟨_, body f cdv A outer s H E gd hr, (fn_go h).2⟩
theorem calFC {x : Str} {st : Stmt} {cd : Value} {N ps : List Str} {k n : Nat} {B : Fst} (D : DefC K mg x st cd) (S : FnScope N ps (defScope st)) (hn : ps.length = n) (b : ∀ f fd, Fun K x x st f fd → Binds K fd ps [])
    (body : ∀ (f : Addr) (A : Around) (outer : List Env) (s : Shared) (H : Hp) (E : XK), Gd A → Room k (A.deeper (envOfC x (defScope st) s.heap.objs.size f cd)) →
      PSs (cxOf CX0 P w K mg base N x (defScope st) f cd A outer s H E).nox (defBody st) (tS K T B)) : CalG P w K mg base (k + 1) x (spF K T (fnOf n N.length B)) [] :=
  calGC D S b (fun vs H Q E h => by rw [hn]; exact (fn_go h).1) fun f A outer s H vs Q E gd hr h => ⟨_, body f A outer s H E gd hr, (fn_go h).2⟩
theorem FnG.weak {k : Nat} {f : Addr} {fd : FuncData} {ps : List Str} {sp sp' : Sp} (F : FnG P w K mg base k f fd ps sp) (h : ∀ vs H Q E, sp' vs H Q E → sp vs H Q E) : FnG P w K mg base k f fd ps sp' :=
  ⟨fun vs H Q E z => F.len vs H Q E (h vs H Q E z), fun A outer s H args us vs Q E g r e b v z => F.run A outer s H args us vs Q E g r e b v (h vs H Q E z)⟩
theorem CalG.weak {k : Nat} {x : Str} {sp sp' : Sp} (c : CalG P w K mg base k x sp []) (h : ∀ vs H Q E, sp' vs H Q E → sp vs H Q E) : CalG P w K mg base k x sp' [] := by
  obtain ⟨f, fd, ps, ds, F, r⟩ := c.ex
  exact ⟨f, fd, ps, ds, FnG.weak F h, r⟩
theorem calF.none {x : Str} {st : Stmt} {ps : List Str} (D : DefG K mg x st) (b : ∀ f fd, Fun K x x st f fd → Binds K fd ps []) : CalG P w K mg base 0 x (spF K T fun _ _ => .bad) [] := by
  obtain ⟨f, fd, F, hm⟩ := D.ex
  exact ⟨f, fd, ps, [], ⟨fun vs H Q E ⟨ms, ws, M, R, rv, q⟩ => q.elim, fun A outer s H args us vs Q E g r e b v ⟨ms, ws, M, R, rv, q⟩ => q.elim⟩, hm, F.kp, b f fd F, .nil⟩
/-- one that agrees where it answers -/
theorem CalG.more {k : Nat} {x : Str} {F G : Fn} (c : CalG P w K mg base k x (spF K T F) []) (h : ∀ ws M, G ws M ≠ .bad → F ws M = G ws M) : CalG P w K mg base k x (spF K T G) [] :=
  CalG.weak c fun vs H Q E ⟨ms, ws, M, R, rv, q⟩ => ⟨ms, ws, M, R, rv, by
    cases e : G ws M with
    | bad => rw [e] at q; exact q.elim
    | ok a M' => rw [h ws M (by rw [e]; simp), e]; rw [e] at q; exact q
    | ex y M' => rw [e] at q; exact q.elim⟩

/-! ### what is new within is forgotten behind a def -/
def low (n : Nat) : Wv → Bool
  | .r i => decide (i < n)
  | _ => true
def Ob.low (n : Nat) : Ob → Bool
  | .lst ws => ws.all (Fu.low n)
  | .dct kvs => kvs.all fun q => Fu.low n q.2
  | .lk kvs => kvs.all fun q => Fu.low n q.2
def frzW (n : Nat) (M : Sto) : Wv → Option Wv
  | .r i => if i < n then some (.r i) else match M[i]? with
    | some (.lst ws) => (datas ws).map fun ds => .d (.list ds)
    | _ => none
  | w => some w
def dropF (F : Fn) : Fn := fun ws M => match F ws M with
  | .ok w M' => if (decide (M.length ≤ M'.length) && (M'.take M.length).all (Ob.low M.length)) = true then match frzW M.length M' w with
    | some w' => .ok w' (M'.take M.length)
    | none => .bad else .bad
  | o => o
theorem repw_low {v : V} {w : Wv} (h : RepW K ms' H v w) (l : low ms.a.length w = true) (k : Keep ms' ms H H) (np : ∀ i a, i < ms.a.length → ms'.a[i]? = some a → ms.a[i]? = some a) : RepW K ms H v w := by
  cases w with
  | d x => exact Dm.keep h k
  | r i =>
    obtain ⟨a, h1, h2⟩ := h
    exact ⟨a, np i a (of_decide_eq_true l) h1, h2⟩
  | t n => exact h
  | s ns =>
    obtain ⟨a, h1, ⟨o, h2, h3⟩ | h2⟩ := h
    · exact ⟨a, h1, .inl ⟨o, h2, k.ni _ _ h2 h3 (fun ps z => by cases z)⟩⟩
    · exact ⟨a, h1, .inr h2⟩
theorem repall_low : ∀ {vs : List V} {ws : List Wv}, RepAll K ms' H vs ws → ws.all (low ms.a.length) = true → Keep ms' ms H H → (∀ i a, i < ms.a.length → ms'.a[i]? = some a → ms.a[i]? = some a) → RepAll K ms H vs ws
  | _, _, .nil, _, _, _ => .nil
  | _, _, .cons r t, l, k, np => by
    rw [List.all_cons, Bool.and_eq_true] at l
    exact .cons (repw_low r l.1 k np) (repall_low t l.2 k np)
theorem kvs_low : ∀ {us : List (Key × V)} {kvs : List (Key × Wv)}, Paired (fun (p : Key × V) (q : Key × Wv) => p.1 = q.1 ∧ RepW K ms' H p.2 q.2) us kvs → (kvs.all fun q => low ms.a.length q.2) = true → Keep ms' ms H H →
    (∀ i a, i < ms.a.length → ms'.a[i]? = some a → ms.a[i]? = some a) → Paired (fun (p : Key × V) (q : Key × Wv) => p.1 = q.1 ∧ RepW K ms H p.2 q.2) us kvs
  | _, _, .nil, _, _, _ => .nil
  | _, _, .cons r t, l, k, np => by
    rw [List.all_cons, Bool.and_eq_true] at l
    exact .cons ⟨r.1, repw_low r.2 l.1 k np⟩ (kvs_low t l.2 k np)
theorem drop_go {F : Fn} {vs : List V} {Q : VK} {E : XK} (h : spF K T (dropF F) vs H Q E) : spF K T F vs H Q E := by
  obtain ⟨ms, ws, M, R, rv, q⟩ := h
  refine ⟨ms, ws, M, R, rv, ?_⟩
  unfold dropF at q
  cases e : F ws M with
  | bad => rw [e] at q; exact q
  | ex x M' => rw [e] at q; exact q
  | ok w M' =>
    rw [e] at q
    simp only at q
    split at q
    · rename_i hc
      rw [Bool.and_eq_true, decide_eq_true_eq] at hc
      split at q
      · rename_i w' ew
        intro m1 H1 v e1 R1 r1
        obtain ⟨more, em, _⟩ := e1.pre
        have hn : ms.a.length = M.length := R.len
        have np : ∀ i a, i < ms.a.length → m1.a[i]? = some a → ms.a[i]? = some a := fun i a hi ha => by
          rw [em, List.getElem?_append_left hi] at ha
          exact ha
        have sub : ∀ a, a ∈ ms → a ∈ m1 := fun a ha => by
          rcases ha with z | z
          · exact .inl (by rw [em]; exact List.mem_append_left _ z)
          · exact .inr (by rw [e1.hr]; exact z)
        have kp : Keep m1 ms H1 H1 := Keep.less sub
        have nd := List.nodup_append.mp R1.nd
        have R2 : RelM K T ms (M'.take M.length) H1 := by
          refine ⟨by rw [List.length_take, hn]; omega, ?_, fun i a o h1 h2 => ?_, fun a ha => R1.rv a (by rw [e1.hr]; exact ha), R1.tb, fun z hz => R1.pn z (by rw [e1.hp]; exact hz)⟩
          · have nd2 := R1.nd
            rw [em, e1.hr, List.append_assoc] at nd2
            have n1 := List.nodup_append.mp nd2
            have n2 := List.nodup_append.mp n1.2.1
            exact List.nodup_append.mpr ⟨n1.1, n2.2.1, fun a ha b hb => n1.2.2 a ha b (List.mem_append_right _ hb)⟩
          · have hi : i < ms.a.length := (List.getElem?_eq_some_iff.mp h1).1
            have h2' : M'[i]? = some o := by
              rw [List.getElem?_take] at h2
              split at h2
              · exact h2
              · cases h2
            have h1' : m1.a[i]? = some a := by
              rw [em, List.getElem?_append_left hi]
              exact h1
            have lo : o.low ms.a.length = true := by
              rw [hn]
              exact List.all_eq_true.mp hc.2 o (List.mem_of_getElem? h2)
            have ob := R1.ob i a o h1' h2'
            cases o with
            | lst us =>
              obtain ⟨ys, g1, g2⟩ := ob
              exact ⟨ys, g1, repall_low g2 lo kp np⟩
            | dct kvs =>
              obtain ⟨ys, g1, g2⟩ := ob
              exact ⟨ys, g1, kvs_low g2 lo kp np⟩
            | lk kvs =>
              obtain ⟨od, ys, g1, g3, g2⟩ := ob
              exact ⟨od, ys, g1, by rw [← e1.hp]; exact g3, kvs_low g2 lo kp np⟩
        refine q ms H1 v e1.less R2 ?_
        unfold frzW at ew
        split at ew
        · rename_i i
          split at ew
          · rename_i hi
            cases ew
            exact repw_low r1 (by simp only [low, decide_eq_true_eq]; omega) kp np
          · rename_i hi
            split at ew
            · rename_i us eo
              obtain ⟨a, ha, rfl⟩ := r1
              cases ed : datas us with
              | none => rw [ed] at ew; cases ew
              | some ds =>
                rw [ed] at ew
                cases ew
                obtain ⟨ys, g1, g2⟩ := R1.ob i a _ ha eo
                have na : a ∉ ms := by
                  intro z
                  rcases z with z | z
                  · obtain ⟨j, hj, ej⟩ := List.mem_iff_getElem.mp z
                    have hj' : m1.a[j]? = some a := by
                      rw [em, List.getElem?_append_left hj, List.getElem?_eq_getElem hj, ej]
                    have := (List.getElem?_inj (List.getElem?_eq_some_iff.mp ha).1 nd.1).mp (ha.trans hj'.symm)
                    omega
                  · exact nd.2.2 a (List.mem_of_getElem? ha) a (by rw [e1.hr]; exact z) rfl
                exact (show Dm K ms H1 _ _ from .lst ⟨g1, na⟩ ((datas_rep ed g2).keep kp))
            · cases ew
        · cases ew
          cases w with
          | d x => exact repw_low r1 rfl kp np
          | r i => rename_i hw; exact absurd rfl (hw i)
          | t n => exact repw_low r1 rfl kp np
          | s n => exact repw_low r1 rfl kp np
      · exact q.elim
    · exact q.elim
theorem CalG.drop {k : Nat} {x : Str} {F : Fn} (c : CalG P w K mg base k x (spF K T F) []) : CalG P w K mg base k x (spF K T (dropF F)) [] := CalG.weak c fun vs H Q E h => drop_go h
end
end Fu

set_option Elab.async false
set_option linter.all false
set_option maxRecDepth 100000
set_option maxHeartbeats 4000000
/-! The functional reading, IX: dicts. -/
namespace Fu
open PySem PySem.Spec PyProof.Rows L2 Dat LamX
def keyD : PyData → Option Key
  | .int i => some (.inl i)
  | .str x => some (.inr x)
  | _ => none
def dK : Key → PyData
  | .inl i => .int i
  | .inr x => .str x
@[simp] theorem keyD_dK (k : Key) : keyD (dK k) = some k := by cases k <;> rfl
theorem dK_keyD {d : PyData} {k : Key} (h : keyD d = some k) : d = dK k := by
  cases d <;> simp_all [keyD] <;> (subst h; rfl)
def getW (kvs : List (Key × Wv)) (k : Key) : Option Wv := (kvs.find? fun kv => decide (kv.1 = k)).map (·.2)
def putW (kvs : List (Key × Wv)) (k : Key) (v : Wv) : List (Key × Wv) :=
  if (kvs.any fun kv => decide (kv.1 = k)) = true then kvs.map (fun kv => if kv.1 = k then (kv.1, v) else kv) else kvs ++ [(k, v)]
def mergeW (kvs more : List (Key × Wv)) : List (Key × Wv) := more.foldl (fun acc kv => putW acc kv.1 kv.2) kvs
section
variable {K : PySem.W.Frag} {T : List (Addr × Str)} {X : Cx} {pos : Pos} {ms ms' : Ms} {H H' : Hp} {M : Sto} {sd : Slo} {σ : L2.St}
abbrev KvR (K : PySem.W.Frag) (ms : Ms) (H : Hp) : List (Key × V) → List (Key × Wv) → Prop := Paired (fun (p : Key × V) (q : Key × Wv) => p.1 = q.1 ∧ RepW K ms H p.2 q.2)
theorem kv_get : ∀ {us : List (Key × V)} {kvs : List (Key × Wv)} (k : Key), KvR K ms H us kvs → (match getW kvs k with
    | some w => ∃ v, valV us k = some v ∧ RepW K ms H v w
    | none => valV us k = none)
  | _, _, k, .nil => by
    simp only [getW, List.find?_nil, Option.map_none]
    rfl
  | (k1, v) :: us, (k2, w) :: kvs, k, .cons r t => by
    obtain ⟨e, r⟩ := r
    simp only at e
    subst e
    by_cases h : k1 = k
    · subst h
      simp only [getW, List.find?_cons, decide_true, Option.map_some]
      exact ⟨v, valV_pos rfl, r⟩
    · have ih := kv_get k t
      have e1 : getW ((k1, w) :: kvs) k = getW kvs k := by simp [getW, List.find?_cons, h]
      rw [e1, valV_neg (p := (k1, v)) h]
      exact ih
theorem kv_any : ∀ {us : List (Key × V)} {kvs : List (Key × Wv)} (k : Key), KvR K ms H us kvs → (us.any fun kv => decide (kv.1 = k)) = (kvs.any fun kv => decide (kv.1 = k))
  | _, _, k, .nil => rfl
  | _, _, k, .cons r t => by rw [List.any_cons, List.any_cons, kv_any k t, r.1]
theorem kv_map : ∀ {us : List (Key × V)} {kvs : List (Key × Wv)} {k : Key} {v : V} {w : Wv}, KvR K ms H us kvs → RepW K ms H v w → KvR K ms H (us.map fun kv => if kv.1 = k then (kv.1, v) else kv) (kvs.map fun kv => if kv.1 = k then (kv.1, w) else kv)
  | _, _, k, v, w, .nil, _ => .nil
  | (k1, v1) :: us, (k2, w1) :: kvs, k, v, w, .cons r t, q => by
    obtain ⟨e, r⟩ := r
    simp only at e
    subst e
    rw [List.map_cons, List.map_cons]
    refine .cons ?_ (kv_map t q)
    by_cases h : k1 = k
    · simp only [h, if_true]
      exact ⟨trivial, q⟩
    · simp only [h, if_false]
      exact ⟨trivial, r⟩
theorem kv_app : ∀ {us us2 : List (Key × V)} {kvs kvs2 : List (Key × Wv)}, KvR K ms H us kvs → KvR K ms H us2 kvs2 → KvR K ms H (us ++ us2) (kvs ++ kvs2)
  | _, _, _, _, .nil, h => h
  | _, _, _, _, .cons r t, h => .cons r (kv_app t h)
theorem kv_put {us : List (Key × V)} {kvs : List (Key × Wv)} {v : V} {w : Wv} (k : Key) (h : KvR K ms H us kvs) (r : RepW K ms H v w) : KvR K ms H (putK us k v) (putW kvs k w) := by
  unfold putK putW
  rw [kv_any k h]
  split
  · exact kv_map h r
  · exact kv_app h (.cons ⟨rfl, r⟩ .nil)
theorem kv_merge : ∀ {us2 us : List (Key × V)} {kvs2 kvs : List (Key × Wv)}, KvR K ms H us2 kvs2 → KvR K ms H us kvs → KvR K ms H (mergeK us us2) (mergeW kvs kvs2)
  | _, _, _, _, .nil, h => h
  | _, _, _, _, .cons (a := a) (b := b) r t, h => by
    have e : a.1 = b.1 := r.1
    show KvR K ms H (mergeK (putK _ a.1 a.2) _) (mergeW (putW _ b.1 b.2) _)
    rw [e]
    exact kv_merge t (kv_put _ h r.2)
theorem kv_len {us : List (Key × V)} {kvs : List (Key × Wv)} (h : KvR K ms H us kvs) : us.length = kvs.length := Paired.length h

/-! ### dict(t), dict(enumerate(t)), {} -/
def pairK : PyData → Option (Key × Wv)
  | .tuple [k, v] => (keyD k).map fun k => (k, .d v)
  | _ => none
def pairsK : List PyData → Option (List (Key × Wv))
  | [] => some []
  | d :: ds => (pairK d).bind fun q => (pairsK ds).map (q :: ·)
theorem pairsK_v : ∀ {ds : List PyData} {kvs : List (Key × Wv)} {vs : List V}, pairsK ds = some kvs → DmAll K ms H vs ds →
    ∃ (ps : List Addr) (us : List (Key × V)), vs = ps.map V.ref ∧ Paired (fun p kv => SqT K H p [kV kv.1, kv.2]) ps us ∧ KvR K ms H us kvs
  | [], kvs, vs, e, h => by
    cases h
    simp only [pairsK, Option.some.injEq] at e
    subst e
    exact ⟨[], [], rfl, .nil, .nil⟩
  | d :: ds, kvs, vs, e, h => by
    cases h with
    | cons r t =>
      simp only [pairsK] at e
      cases q1 : pairK d with
      | none => rw [q1] at e; cases e
      | some q =>
        rw [q1] at e
        cases q2 : pairsK ds with
        | none => rw [q2] at e; cases e
        | some qs =>
          rw [q2] at e
          cases e
          obtain ⟨ps, us, rfl, h1, h2⟩ := pairsK_v q2 t
          unfold pairK at q1
          split at q1
          · rename_i k v
            cases q3 : keyD k with
            | none => rw [q3] at q1; cases q1
            | some kk =>
              rw [q3] at q1
              cases q1
              have ek := dK_keyD q3
              subst ek
              obtain ⟨a, xs, rfl, g1, g2⟩ := Dm.tupE r
              cases g2 with
              | cons a1 t1 =>
                cases t1 with
                | cons a2 t2 =>
                  cases t2
                  rename_i vk vv
                  have evk : vk = kV kk := by
                    cases kk with
                    | inl i => cases a1; rfl
                    | inr x => cases a1; rfl
                  subst evk
                  exact ⟨a :: ps, (kk, vv) :: us, rfl, .cons g1.sq h1, .cons ⟨rfl, a2⟩ h2⟩
          · cases q1
theorem newD {us : List (Key × V)} {kvs : List (Key × Wv)} {p : Addr} (R : RelM K T ms M H) (h : KvR K ms H us kvs) (hp : H p = none) :
    Ext ms (ms.add p) H (upd H p (.dK us)) ∧ RelM K T (ms.add p) (M ++ [.dct kvs]) (upd H p (.dK us)) ∧ RepW K (ms.add p) (upd H p (.dK us)) (.ref p) (.r M.length) := by
  have e : Ext ms (ms.add p) H (upd H p (.dK us)) := .add hp
  exact ⟨e, R.add hp ⟨us, upd_same, kvs_keep h e.keeps⟩, rep_last R⟩
def oDictT : Fn := fun ws M => match ws with
  | [.d (.tuple ds)] => match pairsK ds with
    | some kvs => .ok (.r M.length) (M ++ [.dct (mergeW [] kvs)])
    | none => .bad
  | _ => .bad
theorem pairs_like {ds : List PyData} {kvs : List (Key × Wv)} (h : pairsK ds = some kvs) : pairlike ds = false := by
  unfold pairlike
  split
  · simp [pairsK, pairK] at h
  · simp [pairsK, pairK] at h
  · rfl
theorem k_rdict : OkRC K T (rDictT K) oDictT := by
  intro ms M H ws vs Q R rv h
  unfold oDictT at h
  split at h
  · rename_i ds
    split at h
    · rename_i kvs e
      cases rv with
      | cons r t =>
        cases t
        obtain ⟨a, xs, rfl, g1, g2⟩ := Dm.tupE r
        obtain ⟨ps, us, rfl, h1, h2⟩ := pairsK_v e g2
        refine ⟨a, ps, us, rfl, ?_, h1, fun p hp => ?_⟩
        · rcases g1 with g1 | ⟨z, _⟩
          · exact g1.cln
          · rw [pairs_like e] at z
            cases z
        · obtain ⟨e1, R1, r1⟩ := newD R (kv_merge h2 .nil) hp
          exact h _ _ _ e1 R1 r1
    · exact h.elim
  · exact h.elim
def enW : Nat → List PyData → List (Key × Wv)
  | _, [] => []
  | i, x :: xs => (Sum.inl (i : Int), .d x) :: enW (i + 1) xs
theorem en_kv : ∀ {vs : List V} {ds : List PyData} (i : Nat), DmAll K ms H vs ds → KvR K ms H (enL i vs) (enW i ds)
  | _, _, _, .nil => .nil
  | _, _, i, .cons r t => .cons ⟨rfl, r⟩ (en_kv (i + 1) t)
def fDictEnum (f : Fa) : Fx := fun sd M => (f sd M).bind fun ws M1 => match ws with
  | [.d (.tuple ds)] => .ok (.r M1.length) (M1 ++ [.dct (mergeW [] (enW 0 ds))])
  | _ => .bad
theorem fe_dictEnum (K : PySem.W.Frag) {e : Expr} {f : Fa} {p p2 pos pos2 : Pos} (hc : X.calm = true) (hg : Gl X "dict") (hm : X.mg "dict" = none) (hb : bootBuiltins "dict" = some (.type "dict")) (hg2 : Gl X "enumerate") (hm2 : X.mg "enumerate" = none) (ha : PA X [e] (tA K T f))
    (n2 : starEach [e] X.env = [(false, eval e X.env)] := by rfl)
    (na : starEach [.Call (.Name "enumerate" p2) [e] [] pos2] X.env = (false, eval (.Call (.Name "enumerate" p2) [e] [] pos2) X.env) :: starEach [] X.env := by rfl) (hk : X.K = K := by rfl) :
    PE X (.Call (.Name "dict" p) [.Call (.Name "enumerate" p2) [e] [] pos2] [] pos) (tF K T (fDictEnum f)) := by
  subst hk
  exact (pe_dictEnum hc hg hm hb hg2 hm2 ha n2 na).weak fun σ H Q ⟨ms, sd, M, R, S, h⟩ => tA_use R S h fun ws M1 m1 H1 vs h1 e1 R1 S1 r1 => by
    split at h1
    · cases r1 with
      | cons r t =>
        cases t
        obtain ⟨a, xs, rfl, g1, g2⟩ := Dm.tupE r
        refine ⟨a, xs, rfl, g1.sq, fun p hp => ?_⟩
        obtain ⟨e2, R2, r2⟩ := newD R1 (kv_merge (en_kv 0 g2) .nil) hp
        exact h1 _ _ _ e2 R2 r2
    · exact h1.elim
def fDict0 : Fx := fun _ M => .ok (.r M.length) (M ++ [.dct []])
theorem fe_dict0 {e : Expr} (h : PE X e (fun σ H Q => ∀ p, H p = none → Q (.ref p) (upd H p (.dK [])))) : PE X e (tF K T fDict0) := h.weak fun σ H Q ⟨ms, sd, M, R, S, h⟩ p hp => by
  obtain ⟨e2, R2, r2⟩ := newD R (.nil (F := fun (p : Key × V) (q : Key × Wv) => p.1 = q.1 ∧ RepW K ms H p.2 q.2)) hp
  exact h _ _ _ e2 R2 r2

/-! ### d[k], k in d -/
def dctW (M : Sto) : Wv → Option (List (Key × Wv))
  | .r i => match M[i]? with
    | some (.dct kvs) => some kvs
    | some (.lk kvs) => some kvs
    | _ => none
  | _ => none
theorem dct_at {w : Wv} {v : V} {kvs : List (Key × Wv)} (R : RelM K T ms M H) (h : dctW M w = some kvs) (r : RepW K ms H v w) : ∃ a us, v = .ref a ∧ Rd H a (.dK us) ∧ KvR K ms H us kvs := by
  unfold dctW at h
  split at h
  · rename_i i
    obtain ⟨a, ha, rfl⟩ := r
    split at h
    · rename_i ks eo
      cases h
      obtain ⟨us, h1, h2⟩ := R.ob i a _ ha eo
      exact ⟨a, us, rfl, .inl h1, h2⟩
    · rename_i ks eo
      cases h
      obtain ⟨od, us, h1, _, h2⟩ := R.ob i a _ ha eo
      exact ⟨a, us, rfl, .inr ⟨od, h1⟩, h2⟩
    · cases h
  · cases h
theorem dget_at {us : List (Key × V)} {kvs : List (Key × Wv)} {a : Addr} {y : V} {d : PyData} {k : Key} (hd : Rd H a (.dK us)) (h : KvR K ms H us kvs) (ry : RepW K ms H y (.d d)) (hk : keyD d = some k) : match getW kvs k with
    | some w => ∃ v, DGet H a y (some v) ∧ RepW K ms H v w
    | none => DGet H a y none := by
  have e := dK_keyD hk
  subst e
  have ey : y = kV k := by
    cases k with
    | inl i => cases ry; rfl
    | inr x => cases ry; rfl
  subst ey
  have g := kv_get k h
  split at g
  · obtain ⟨v, h1, h2⟩ := g
    exact ⟨v, .inl ⟨us, k, hd, rfl, h1.symm⟩, h2⟩
  · exact .inl ⟨us, k, hd, rfl, g.symm⟩
def oDGet : Fo := fun x y M => match dctW M x, y with
  | some kvs, .d d => match (keyD d).bind (getW kvs) with
    | some w => .ok w M
    | none => .bad
  | _, _ => .bad
theorem fe_dget {o i : Expr} {f g : Fx} (hu : X.A.units + 1 < cLine) (ho : PE X o (tF K T f)) (hi : PE X i (tF K T g)) (hs : NoSl i) : PE X (.Subscript o i pos) (tF K T (fOp oDGet f g)) := (pe_dget hu ho hi hs).weak fun σ H Q ⟨ms, sd, M, R, S, h⟩ =>
  tF_use R S h fun x M1 m1 H1 v h1 e1 R1 S1 r1 => tF_use R1 S1 h1 fun y M2 m2 H2 u h2 e2 R2 S2 r2 => by
    unfold oDGet at h2
    split at h2
    · rename_i kvs d ed
      split at h2
      · rename_i w ew
        cases q : keyD d with
        | none => rw [q] at ew; cases ew
        | some k =>
          rw [q] at ew
          have ew : getW kvs k = some w := ew
          obtain ⟨a, us, rfl, g1, g2⟩ := dct_at R2 ed (r1.ext e2)
          have g := dget_at g1 g2 r2 q
          rw [ew] at g
          obtain ⟨z, h3, h4⟩ := g
          exact ⟨a, z, rfl, h3, h2.here R2 h4⟩
      · exact h2.elim
    · exact h2.elim
def oDIn (neg : Bool) : Fo := fun y x M => match dctW M x, y with
  | some kvs, .d d => match keyD d with
    | some k => .ok (.d (.bool (if neg then !(getW kvs k).isSome else (getW kvs k).isSome))) M
    | none => .bad
  | _, _ => .bad
theorem oDIn_go {f g : Fx} {neg : Bool} : ∀ σ H Q, tF K T (fOp (oDIn neg) f g) σ H Q → tF K T f σ H fun y H1 => tF K T g σ H1 fun x H2 => ∃ a o, x = .ref a ∧ DGet H2 a y o ∧ Q (.bl (if neg then !o.isSome else o.isSome)) H2 := fun σ H Q ⟨ms, sd, M, R, S, h⟩ =>
  tF_use R S h fun x M1 m1 H1 v h1 e1 R1 S1 r1 => tF_use R1 S1 h1 fun y M2 m2 H2 u h2 e2 R2 S2 r2 => by
    unfold oDIn at h2
    split at h2
    · rename_i kvs d ed
      split at h2
      · rename_i k ek
        obtain ⟨a, us, rfl, g1, g2⟩ := dct_at R2 ed r2
        have g := dget_at g1 g2 (r1.ext e2) ek
        cases q : getW kvs k with
        | some w =>
          rw [q] at g h2
          obtain ⟨z, h3, h4⟩ := g
          exact ⟨a, some z, rfl, h3, h2.here R2 (show RepW K m2 H2 _ (.d (.bool _)) from .bl _)⟩
        | none =>
          rw [q] at g h2
          exact ⟨a, none, rfl, g, h2.here R2 (show RepW K m2 H2 _ (.d (.bool _)) from .bl _)⟩
      · exact h2.elim
    · exact h2.elim
theorem _root_.L2.PC.weak {X : Cx} {op : CmpOp} {a b : Expr} {t t' : TE} (h : PC X op a b t) (w : ∀ σ H Q, t' σ H Q → t σ H Q) : PC X op a b t' := ⟨fun pins s σ H Q I q => h.run pins s σ H Q I (w σ H Q q)⟩
theorem fc_din {i o : Expr} {f g : Fx} (hu : X.A.units + 1 < cLine) (hi : PE X i (tF K T f)) (ho : PE X o (tF K T g)) : PC X .In i o (tF K T (fOp (oDIn false) f g)) := (pc_din hu hi ho).weak oDIn_go
theorem fc_dnotin {i o : Expr} {f g : Fx} (hu : X.A.units + 1 < cLine) (hi : PE X i (tF K T f)) (ho : PE X o (tF K T g)) : PC X .NotIn i o (tF K T (fOp (oDIn true) f g)) := (pc_dnotin hu hi ho).weak oDIn_go
theorem fe_pc {op : CmpOp} {a b : Expr} {f : Fx} (h : PC X op a b (tF K T f)) (h1 : behindInMarks op b = false := by first | exact nobehind _ (by decide) (by decide) | rfl) : PE X (.Compare a [op] [b] pos) (tF K T f) := pe_cmp h h1
theorem ft_pc {op : CmpOp} {a b : Expr} {f : Fx} (h : PC X op a b (tF K T f)) (h1 : behindInMarks op b = false := by first | exact nobehind _ (by decide) (by decide) | rfl) : PT X (.Compare a [op] [b] pos) (tT K T (fTest f)) := (pt_cmp h h1).weak t_test

/-! ### d.items() -/
def itemD : Key × Wv → Option PyData
  | (k, .d x) => some (.tuple [dK k, x])
  | _ => none
def itemsD : List (Key × Wv) → Option (List PyData)
  | [] => some []
  | q :: qs => (itemD q).bind fun d => (itemsD qs).map (d :: ·)
theorem items_v : ∀ {us : List (Key × V)} {kvs : List (Key × Wv)} {ds : List PyData} {ts : List Addr}, itemsD kvs = some ds → KvR K ms H us kvs → Paired (fun (t : Addr) (q : Key × V) => H t = some (.tup [kV q.1, q.2])) ts us → (∀ t ∈ ts, t ∉ ms) → DmAll K ms H (ts.map V.ref) ds
  | [], [], ds, ts, e, h, p, n => by
    cases p
    simp only [itemsD, Option.some.injEq] at e
    subst e
    exact .nil
  | u :: us, q :: qs, ds, ts, e, h, p, n => by
    cases p with
    | cons p1 p2 =>
      cases h with
      | cons h1 h2 =>
        simp only [itemsD] at e
        cases e1 : itemD q with
        | none => rw [e1] at e; cases e
        | some d =>
          rw [e1] at e
          cases e2 : itemsD qs with
          | none => rw [e2] at e; cases e
          | some es =>
            rw [e2] at e
            cases e
            rw [List.map_cons]
            refine .cons ?_ (items_v e2 h2 p2 fun t ht => n t (List.mem_cons_of_mem _ ht))
            obtain ⟨k, w⟩ := q
            cases w with
            | d x =>
              cases e1
              obtain ⟨k', v⟩ := u
              obtain ⟨ek, rv⟩ := h1
              simp only at ek rv p1
              subst ek
              refine .tup (.inr ⟨by cases k' <;> rfl, p1, n _ List.mem_cons_self⟩) (.cons ?_ (.cons rv .nil))
              cases k' with
              | inl i => exact .int i
              | inr z => exact .str z
            | r i => cases e1
            | t i => cases e1
            | s i => cases e1
  | [], _ :: _, ds, ts, e, h, p, n => by cases h
  | _ :: _, [], ds, ts, e, h, p, n => by cases h
def fListItems (f : Fx) : Fx := fun sd M => (f sd M).bind fun w M1 => match w with
  | .r i => match M1[i]? with
    | some (.dct kvs) => match itemsD kvs with
      | some ds => .ok (.d (.list ds)) M1
      | none => .bad
    | _ => .bad
  | _ => .bad
theorem fe_listItems {e : Expr} {f : Fx} {p apos cpos : Pos} (hc : X.calm = true) (he : PE X e (tF K T f)) (hg : Gl X "list") (hm : X.mg "list" = none) (hv : bootBuiltins "list" = some (.type "list")) (hbase : attributeBase e "items" X.env (eval e X.env) = eval e X.env := by rfl) (hline : (apos.endLine == cpos.line) = true := by rfl)
    (hs : starEach [.Call (.Attribute e "items" apos) [] [] cpos] X.env = (false, eval (.Call (.Attribute e "items" apos) [] [] cpos) X.env) :: starEach [] X.env := by rfl) :
    PE X (.Call (.Name "list" p) [.Call (.Attribute e "items" apos) [] [] cpos] [] pos) (tF K T (fListItems f)) := (LiI.pe_listItems hc he hg hm hv hbase hline hs).weak fun σ H Q ⟨ms, sd, M, R, S, h⟩ =>
  tF_use R S h fun x M1 m1 H1 v h1 e1 R1 S1 r1 => by
    split at h1
    · rename_i i
      split at h1
      · rename_i kvs eo
        split at h1
        · rename_i ds ed
          obtain ⟨a, ha, rfl⟩ := r1
          obtain ⟨us, g1, g2⟩ := R1.ob i a _ ha eo
          refine ⟨a, us, rfl, g1, fun H' p ts sm hp hts hpt hL hP => ?_⟩
          have e2 : Ext m1 m1 H1 H' := .same sm
          exact h1 m1 H' (.ref p) e2 (R1.same sm) (show Dm K m1 H' _ _ from .lst ⟨hL, R1.fresh hp⟩ (items_v ed (kvs_keep g2 e2.keeps) hP fun t ht => R1.fresh (hts t ht)))
        · exact h1.elim
      · exact h1.elim
    · exact h1.elim
/-- while a dict is walked it is locked -/
def fiItems (f : Fx) : Fi := fun sd M => (f sd M).bind fun w M1 => match w with
  | .r i => match M1[i]? with
    | some (.lk kvs) => .ok ⟨kvs.map fun q => .pair (.d (dK q.1)) q.2, none⟩ M1
    | _ => .bad
  | _ => .bad
theorem t_items {f : Fx} : ∀ σ H R, tI K T (fiItems f) σ H R → iItems (tF K T f) σ H R := fun σ H R ⟨ms, sd, M, R0, S, h⟩ =>
  tF_its R0 S h fun w M1 m1 H1 v h1 e1 R1 S1 r1 => by
    split at h1
    · rename_i i
      split at h1
      · rename_i kvs eo
        obtain ⟨a, ha, rfl⟩ := r1
        obtain ⟨od, us, g1, g2, g3⟩ := R1.ob i a _ ha eo
        refine ⟨a, od, us, rfl, g1, h1 m1 H1 _ (.refl _ _) R1 fun m2 M2 H2 k2 R2 _ => ?_⟩
        have hH : H2 a = some (.frz od (.dK us)) := (R2.pn _ (k2.pp _ g2)).1
        have hl := kv_len g3
        have W := walk_items (d := a) (o := od) (kvs := us)
        refine ⟨by show (Iti a od us).stop (kvs.map _).length H2; rw [List.length_map, ← hl]; exact W.stops H2 hH, fun j it hj => ?_⟩
        have hj : (kvs.map fun q => Itm.pair (.d (dK q.1)) q.2)[j]? = some it := hj
        rw [List.getElem?_map] at hj
        cases q : kvs[j]? with
        | none => rw [q] at hj; cases hj
        | some kw =>
          rw [q] at hj
          cases hj
          have lj : j < us.length := by rw [hl]; exact (List.getElem?_eq_some_iff.mp q).1
          refine ⟨W.goes j H2 lj hH, fun x H3 y => ?_⟩
          obtain ⟨T', x', y', rfl, hT, rfl, ex, ey⟩ := W.yields j H2 x H3 lj hH y
          have e3 : Ext m2 m2 H2 (upd H2 T' (.tup [x', y'])) := .new hT
          have g3' := kvs_keep g3 k2
          have get : ∀ {us : List (Key × V)} {kvs : List (Key × Wv)} {j : Nat} {kw : Key × Wv}, KvR K m2 H2 us kvs → kvs[j]? = some kw → ∃ v, us[j]? = some (kw.1, v) ∧ RepW K m2 H2 v kw.2 := by
            intro us kvs j
            induction us generalizing kvs j with
            | nil =>
              intro kw h e
              cases h
              simp at e
            | cons u us ih =>
              intro kw h e
              cases h with
              | cons r t =>
                cases j with
                | zero =>
                  simp at e
                  subst e
                  obtain ⟨k', v⟩ := u
                  obtain ⟨e1, e2⟩ := r
                  simp only at e1 e2
                  subst e1
                  exact ⟨v, rfl, e2⟩
                | succ j =>
                  obtain ⟨v, h1, h2⟩ := ih (j := j) t (by simpa using e)
                  exact ⟨v, by simpa using h1, h2⟩
          obtain ⟨z, hz, rz⟩ := get g3' q
          simp only [hz, Option.map_some, Option.some.injEq] at ex ey
          cases ex
          cases ey
          refine ⟨e3, R2.new hT, T', _, _, rfl, upd_same, R2.fresh hT, ?_, rz.ext e3⟩
          cases kw.1 with
          | inl i => exact (show Dm K m2 _ _ _ from .int i)
          | inr z => exact (show Dm K m2 _ _ _ from .str z)
      · exact h1.elim
    · exact h1.elim
theorem fi_items {e : Expr} {f : Fx} {elts : List Expr} {kk : Nat} {tpos apos cpos : Pos} (he : PE X e (tF K T f)) (hbase : attributeBase e "items" X.env (eval e X.env) = eval e X.env := by rfl) (hline : (apos.endLine == cpos.line) = true := by rfl) :
    PI X (.Tuple elts kk tpos) (.Call (.Attribute e "items" apos) [] [] cpos) (tI K T (fiItems f)) := (pi_items he hbase hline).weak t_items
/-- e, the dict in slot j locked meanwhile -/
def fLock (j : Nat) (f : Fx) : Fx := fun sd M => match sd[j]? with
  | some (some (.r i)) => match M[i]? with
    | some (.dct kvs) => (f sd (M.set i (.lk kvs))).bind fun w M1 => match M1[i]? with
      | some (.lk kvs') => .ok w (M1.set i (.dct kvs'))
      | _ => .bad
    | _ => .bad
  | _ => .bad
end
end Fu

set_option Elab.async false
set_option linter.all false
set_option maxRecDepth 100000
set_option maxHeartbeats 4000000
/-! The functional reading, X: locks; zip; sorted by a place; two fors. -/
namespace Fu
open PySem PySem.Spec PyProof.Rows L2 Dat LamX RZ
section
variable {K : PySem.W.Frag} {T : List (Addr × Str)} {X : Cx} {pos : Pos} {ms ms' : Ms} {H H' : Hp} {M : Sto} {sd : Slo} {σ : L2.St}
theorem paired_map {α β : Type} {F G : α → β → Prop} : ∀ {l : List α} {m : List β}, Paired F l m → (∀ a b, F a b → G a b) → Paired G l m
  | _, _, .nil, _ => .nil
  | _, _, .cons r t, f => .cons (f _ _ r) (paired_map t f)
theorem ObR.over {a : Addr} {o : Ob} (h : ObR K ms H a o) (kr : ∀ v w, RepW K ms H v w → RepW K ms' H' v w) (s : ∀ u, H a = some u → H' a = some u) (pp : ∀ u, (a, u) ∈ ms.p → (a, u) ∈ ms'.p) : ObR K ms' H' a o := by
  cases o with
  | lst ws =>
    obtain ⟨vs, e, r⟩ := h
    exact ⟨vs, s _ e, paired_map r kr⟩
  | dct kvs =>
    obtain ⟨us, e, r⟩ := h
    exact ⟨us, s _ e, paired_map r fun p q z => ⟨z.1, kr _ _ z.2⟩⟩
  | lk kvs =>
    obtain ⟨od, us, e, hp, r⟩ := h
    exact ⟨od, us, s _ e, pp _ hp, paired_map r fun p q z => ⟨z.1, kr _ _ z.2⟩⟩
theorem RepW.over {v : V} {w : Wv} (h : RepW K ms H v w) (k : Keep ms ms' H H') (nu : ∀ (i : Nat) (a : Addr), ms.a[i]? = some a → ms'.a[i]? = some a) : RepW K ms' H' v w := by
  cases w with
  | d x => exact Dm.keep h k
  | r i =>
    obtain ⟨a, h1, h2⟩ := h
    exact ⟨a, nu _ _ h1, h2⟩
  | t n => exact h
  | s ns =>
    obtain ⟨a, h1, ⟨o, h2, h3⟩ | h2⟩ := h
    · exact ⟨a, h1, .inl ⟨o, k.fr _ _ h2 h3 (fun ps z => by cases z), k.ni _ _ h2 h3 (fun ps z => by cases z)⟩⟩
    · exact ⟨a, h1, .inr h2⟩
theorem nodup_at {l : List Addr} {i j : Nat} {a b : Addr} (nd : l.Nodup) (hi : l[i]? = some a) (hj : l[j]? = some b) (n : i ≠ j) : a ≠ b := fun z => by
  subst z
  exact n ((List.getElem?_inj (List.getElem?_eq_some_iff.mp hi).1 nd).mp (hi.trans hj.symm))
/-- a known dict is locked -/
theorem lock_go {i : Nat} {a : Addr} {us : List (Key × V)} {kvs : List (Key × Wv)} (R : RelM K T ms M H) (ha : ms.a[i]? = some a) (hM : M[i]? = some (.dct kvs)) (hH : H a = some (.dK us)) (hk : KvR K ms H us kvs) (od : Obj) :
    Keeps ms (ms.pin (a, .frz od (.dK us))) H (upd H a (.frz od (.dK us))) ∧ RelM K T (ms.pin (a, .frz od (.dK us))) (M.set i (.lk kvs)) (upd H a (.frz od (.dK us))) := by
  have hm : a ∈ ms.a := List.mem_of_getElem? ha
  have k : Keeps ms (ms.pin (a, .frz od (.dK us))) H (upd H a (.frz od (.dK us))) :=
    ⟨⟨fun b u e n _ => by rw [upd_ne (fun z => n (.inl (by rw [z]; exact hm)))]; exact e, fun b u e n _ z => n z⟩, fun _ _ h => h, fun q h => List.mem_cons_of_mem _ h⟩
  have nd := List.nodup_append.mp R.nd
  refine ⟨k, by rw [List.length_set]; exact R.len, R.nd, fun j b o h1 h2 => ?_, fun b hb => ?_, tabs_set R.tb hH (fun ps z => by cases z) (fun f z => by cases z), fun q hq => ?_⟩
  · by_cases hij : i = j
    · subst hij
      have h1 : ms.a[i]? = some b := h1
      rw [ha] at h1
      cases h1
      rw [List.getElem?_set_self (List.getElem?_eq_some_iff.mp hM).1] at h2
      cases h2
      exact ⟨od, us, upd_same, List.mem_cons_self, kvs_keep hk k⟩
    · rw [List.getElem?_set_ne hij] at h2
      have nb : b ≠ a := (nodup_at nd.1 ha h1 hij).symm
      exact (R.ob j b o h1 h2).keep k fun u e _ => by rw [upd_ne nb]; exact e
  · obtain ⟨o, e, t⟩ := R.rv b hb
    have nb : b ≠ a := fun z => nd.2.2 a hm b hb z.symm
    exact ⟨o, by rw [upd_ne nb]; exact e, t⟩
  · rcases List.mem_cons.mp hq with z | z
    · rw [z]
      exact ⟨upd_same, od, _, rfl⟩
    · obtain ⟨e, od', u', z'⟩ := R.pn q z
      refine ⟨?_, od', u', z'⟩
      rw [upd_ne]
      · exact e
      · intro w
        rw [w, hH, z'] at e
        cases e
theorem unlock_go {i : Nat} {a : Addr} {us : List (Key × V)} {kvs : List (Key × Wv)} {M1 : Sto} {m1 : Ms} {H2 : Hp} {od : Obj} (R : RelM K T ms M H) (ha : ms.a[i]? = some a) (hH : H a = some (.dK us)) (e : Ext (ms.pin (a, .frz od (.dK us))) m1 (upd H a (.frz od (.dK us))) H2) (R1 : RelM K T m1 M1 H2) (hM : M1[i]? = some (.lk kvs)) :
    ∃ m3, H2 a = some (.frz od (.dK us)) ∧ Ext ms m3 H (upd H2 a (.dK us)) ∧ RelM K T m3 (M1.set i (.dct kvs)) (upd H2 a (.dK us)) ∧ ∀ v w, RepW K m1 H2 v w → RepW K m3 (upd H2 a (.dK us)) v w := by
  obtain ⟨a1, r1, p1⟩ := m1
  have hr : r1 = ms.r := e.hr
  have hp : p1 = (a, HO.frz od (.dK us)) :: ms.p := e.hp
  subst hr hp
  obtain ⟨more, em, hmore⟩ := e.pre
  have em : a1 = ms.a ++ more := em
  have hm : a ∈ ms.a := List.mem_of_getElem? ha
  have ha1 : a1[i]? = some a := by
    rw [em, List.getElem?_append_left (List.getElem?_eq_some_iff.mp ha).1]
    exact ha
  have hm1 : a ∈ a1 := List.mem_of_getElem? ha1
  have h2 : H2 a = some (.frz od (.dK us)) := (R1.pn _ List.mem_cons_self).1
  have nd := List.nodup_append.mp R1.nd
  have kr : ∀ v w, RepW K ⟨a1, ms.r, (a, HO.frz od (.dK us)) :: ms.p⟩ H2 v w → RepW K ⟨a1, ms.r, ms.p⟩ (upd H2 a (.dK us)) v w := fun v w h => RepW.over h
    ⟨fun b u q n _ => by rw [upd_ne (fun z => n (.inl (by rw [z]; exact hm1)))]; exact q, fun b u q n _ z => n z⟩ fun _ _ h => h
  refine ⟨⟨a1, ms.r, ms.p⟩, h2, ⟨⟨more, em, fun b hb o q t => ?_⟩, rfl, rfl, fun b o q n t => ?_, fun b o q t => ?_⟩, ⟨by rw [List.length_set]; exact R1.len, R1.nd, fun j b o h3 h4 => ?_, fun b hb => ?_, tabs_set R1.tb h2 (fun ps z => by cases z) (fun f z => by cases z), fun q hq => ?_⟩, kr⟩
  · by_cases z : b = a
    · exact hmore b hb (.frz od (.dK us)) (by rw [z, upd_same]) fun ps z => by cases z
    · exact hmore b hb o (by rw [upd_ne z]; exact q) t
  · have nb : b ≠ a := fun z => n (by rw [z]; exact hm)
    rw [upd_ne nb]
    exact e.fr b o (by rw [upd_ne nb]; exact q) n t
  · by_cases z : b = a
    · exact ⟨_, by rw [z, upd_same], notb_dK⟩
    · obtain ⟨u, hu, tu⟩ := e.lv b o (by rw [upd_ne z]; exact q) t
      exact ⟨u, by rw [upd_ne z]; exact hu, tu⟩
  · have h3 : a1[j]? = some b := h3
    by_cases hij : i = j
    · subst hij
      rw [ha1] at h3
      cases h3
      rw [List.getElem?_set_self (List.getElem?_eq_some_iff.mp hM).1] at h4
      cases h4
      obtain ⟨od', us', g1, g2, g3⟩ := R1.ob i a _ ha1 hM
      rw [h2] at g1
      cases g1
      exact ⟨us, upd_same, paired_map g3 fun p q z => ⟨z.1, kr _ _ z.2⟩⟩
    · rw [List.getElem?_set_ne hij] at h4
      have nb : b ≠ a := (nodup_at nd.1 ha1 h3 hij).symm
      refine (R1.ob j b o h3 h4).over kr (fun u q => by rw [upd_ne nb]; exact q) fun u q => ?_
      rcases List.mem_cons.mp q with z | z
      · cases z
        exact absurd rfl nb
      · exact z
  · obtain ⟨o, q, t⟩ := R1.rv b hb
    have nb : b ≠ a := fun z => nd.2.2 a hm1 b hb z.symm
    exact ⟨o, by rw [upd_ne nb]; exact q, t⟩
  · obtain ⟨q1, od', u', z'⟩ := R1.pn q (List.mem_cons_of_mem _ hq)
    have q1 : H2 q.1 = some q.2 := q1
    refine ⟨?_, od', u', z'⟩
    by_cases z : q.1 = a
    · have w := (R.pn q hq).1
      rw [z, hH, z'] at w
      cases w
    · rw [upd_ne z]
      exact q1
theorem fe_lock {e : Expr} {j : Nat} {f : Fx} (h : PE X e (tF K T f)) : PE X e (tF K T (fLock j f)) := (pe_lock h).weak fun σ H Q ⟨ms, sd, M, R, S, h⟩ => by
  unfold fLock at h
  split at h
  · rename_i i ej
    split at h
    · rename_i kvs eM
      obtain ⟨v, _, r⟩ := S.get ej
      obtain ⟨a, ha, rfl⟩ := r
      obtain ⟨us, hH, hk⟩ := R.ob i a _ ha eM
      refine ⟨a, .dK us, hH, trivial, fun od => ?_⟩
      obtain ⟨k1, R1⟩ := lock_go R ha eM hH hk od
      refine ⟨_, sd, _, R1, S.keep k1, on_mono (on_bind h) fun w M1 _ q m1 H1 v e1 R2 r2 => ?_⟩
      split at q
      · rename_i kvs' eM1
        obtain ⟨m3, h2, e3, R3, kr⟩ := unlock_go R ha hH e1 R2 eM1
        exact ⟨h2, q m3 _ v e3 R3 (kr v w r2)⟩
      · exact q.elim
    · exact h.elim
  · exact h.elim

/-! ### zip -/
def zipI : List Wv → List Wv → List Itm
  | x :: xs, y :: ys => .pair x y :: zipI xs ys
  | _, _ => []
theorem zipI_len : ∀ (xs ys : List Wv), (zipI xs ys).length = min xs.length ys.length
  | [], _ => by simp [zipI]
  | _ :: _, [] => by simp [zipI]
  | x :: xs, y :: ys => by
    rw [zipI, List.length_cons, zipI_len, List.length_cons, List.length_cons]
    omega
theorem zipI_get : ∀ {xs ys : List Wv} {i : Nat} {it : Itm}, (zipI xs ys)[i]? = some it → ∃ x y, xs[i]? = some x ∧ ys[i]? = some y ∧ it = .pair x y
  | [], _, i, it, h => by simp [zipI] at h
  | _ :: _, [], i, it, h => by simp [zipI] at h
  | x :: xs, y :: ys, 0, it, h => by
    simp [zipI] at h
    exact ⟨x, y, rfl, rfl, h.symm⟩
  | x :: xs, y :: ys, i + 1, it, h => by
    obtain ⟨x', y', h1, h2, h3⟩ := zipI_get (i := i) (xs := xs) (ys := ys) (it := it) (by simpa [zipI] using h)
    exact ⟨x', y', by simpa using h1, by simpa using h2, h3⟩
/-- a tuple, or a list that nobody turns -/
def seqD : Wv → Option (Bool × List PyData)
  | .d (.tuple ds) => some (true, ds)
  | .d (.list ds) => some (false, ds)
  | _ => none
theorem seqD_cases {w : Wv} {b : Bool} {ds : List PyData} (h : seqD w = some (b, ds)) : (b = true ∧ w = .d (.tuple ds)) ∨ (b = false ∧ w = .d (.list ds)) := by
  unfold seqD at h
  split at h
  · cases h; exact .inl ⟨rfl, rfl⟩
  · cases h; exact .inr ⟨rfl, rfl⟩
  · cases h
/-- of two tuples, of two lists that nobody turns -/
def fiZ (f : Fa) : Fi := fun sd M => (f sd M).bind fun ws M1 => match ws with
  | [x, y] => match seqD x, seqD y with
    | some (b, xs), some (b', ys) => if b = b' then .ok ⟨zipI (xs.map .d) (ys.map .d), none⟩ M1 else .bad
    | _, _ => .bad
  | _ => .bad
theorem zip_at {J : It} {vs us : List V} {xs ys : List PyData} (r1 : DmAll K ms H vs xs) (r2 : DmAll K ms H us ys) (R : RelM K T ms M H) (hs : J.stop (min vs.length us.length) H) (hg : ∀ i x y, vs[i]? = some x → us[i]? = some y → J.go i H)
    (hy : ∀ i x y v H', vs[i]? = some x → us[i]? = some y → J.yld i H v H' → ∃ T', v = .ref T' ∧ H T' = none ∧ H' = upd H T' (.tup [x, y])) :
    J.stop (zipI (xs.map .d) (ys.map .d)).length H ∧ ∀ i it, (zipI (xs.map .d) (ys.map .d))[i]? = some it → J.go i H ∧ ∀ x H3, J.yld i H x H3 → Ext ms ms H H3 ∧ RelM K T ms M H3 ∧ RepI K ms H3 x it := by
  refine ⟨by rw [zipI_len, List.length_map, List.length_map, ← dma_len r1, ← dma_len r2]; exact hs, fun i it hi => ?_⟩
  obtain ⟨x, y, h1, h2, rfl⟩ := zipI_get hi
  obtain ⟨v, g1, g2⟩ := repall_get (rep_datas r1) h1
  obtain ⟨u, g3, g4⟩ := repall_get (rep_datas r2) h2
  refine ⟨hg i v u g1 g3, fun z H3 q => ?_⟩
  obtain ⟨T', rfl, hT, rfl⟩ := hy i v u z H3 g1 g3 q
  have e : Ext ms ms H (upd H T' (.tup [v, u])) := .new hT
  exact ⟨e, R.new hT, T', v, u, rfl, upd_same, R.fresh hT, g2.ext e, g4.ext e⟩
theorem min_or {n m : Nat} : n ≤ min n m ∨ m ≤ min n m := by omega
theorem t_iZ {f : Fa} : ∀ σ H R, tI K T (fiZ f) σ H R → iZipA K (tA K T f) σ H R := fun σ H R ⟨ms, sd, M, R0, S, h⟩ =>
  tA_its R0 S h fun ws M1 m1 H1 vs h1 e1 R1 S1 r1 => by
    split at h1
    · rename_i x y
      cases r1 with
      | cons ra t =>
        cases t with
        | cons rb t2 =>
          cases t2
          split at h1
          · rename_i b xs b' ys ex ey
            split at h1
            · rename_i hb
              rcases seqD_cases ex with ⟨z, rfl⟩ | ⟨z, rfl⟩
              · rcases seqD_cases ey with ⟨z2, rfl⟩ | ⟨z2, rfl⟩
                · obtain ⟨a, vs, rfl, g1, g2⟩ := Dm.tupE ra
                  obtain ⟨b, us, rfl, k1, k2⟩ := Dm.tupE rb
                  refine ⟨a, b, vs, us, rfl, .inr ⟨g1.sq, k1.sq, h1 m1 H1 _ (.refl _ _) R1 fun m2 M2 H2 kp R2 _ => ?_⟩⟩
                  have sa := (g1.keep kp.toKeep).sq
                  have sb := (k1.keep kp.toKeep).sq
                  exact zip_at (g2.keep kp.toKeep) (k2.keep kp.toKeep) R2 ⟨vs, us, sa, sb, min_or⟩ (fun i x y hx hy => ⟨vs, us, x, y, sa, sb, hx, hy⟩) fun i x y v H' hx hy ⟨T', x', y', e, hT, hH, p1, p2⟩ => by
                    have q1 := p1 vs sa
                    have q2 := p2 us sb
                    rw [hx] at q1
                    rw [hy] at q2
                    cases q1
                    cases q2
                    exact ⟨T', e, hT, hH⟩
                · rw [z, z2] at hb
                  cases hb
              · rcases seqD_cases ey with ⟨z2, rfl⟩ | ⟨z2, rfl⟩
                · rw [z, z2] at hb
                  cases hb
                · obtain ⟨a, vs, rfl, g1, g2⟩ := Dm.lstE ra
                  obtain ⟨b, us, rfl, k1, k2⟩ := Dm.lstE rb
                  refine ⟨a, b, vs, us, rfl, .inl ⟨g1.sq, k1.sq, h1 m1 H1 _ (.refl _ _) R1 fun m2 M2 H2 kp R2 _ => ?_⟩⟩
                  have sa : SqL K H2 a vs := (g1.keep kp.toKeep).sq
                  have sb : SqL K H2 b us := (k1.keep kp.toKeep).sq
                  exact zip_at (g2.keep kp.toKeep) (k2.keep kp.toKeep) R2 ⟨vs, us, sa, sb, min_or⟩ (fun i x y hx hy => ⟨vs, us, x, y, sa, sb, hx, hy⟩) fun i x y v H' hx hy ⟨T', x', y', e, hT, hH, p1, p2⟩ => by
                    have q1 := p1 vs sa
                    have q2 := p2 us sb
                    rw [hx] at q1
                    rw [hy] at q2
                    cases q1
                    cases q2
                    exact ⟨T', e, hT, hH⟩
            · exact h1.elim
          · exact h1.elim
    · exact h1.elim
theorem fi_Z (K : PySem.W.Frag) {e e2 : Expr} {f : Fa} {p pos tpos : Pos} {elts : List Expr} {kk : Nat} (hg : Gl X "zip") (hm : X.mg "zip" = none) (ha : PA X [e, e2] (tA K T f))
    (hs : starEach [e, e2] X.env = (false, eval e X.env) :: starEach [e2] X.env := by rfl) (hpl : (backTo pos (starEach [e2] X.env)).any (·.1) = false := by rfl) (h : X.K = K := by rfl) :
    PI X (.Tuple elts kk tpos) (.Call (.Name "zip" p) [e, e2] [] pos) (tI K T (fiZ f)) := by
  subst h
  exact (pi_zipA hg hm ha hs hpl).weak t_iZ
end
end Fu

set_option Elab.async false
set_option linter.all false
set_option maxRecDepth 100000
set_option maxHeartbeats 4000000
/-! The functional reading, XI: sorted by a place; two fors; tuples several times. -/
namespace Fu
open PySem PySem.Spec PyProof.Rows L2 Dat LamX RZ PySem.W
section
variable {K : PySem.W.Frag} {T : List (Addr × Str)} {X : Cx} {pos : Pos} {ms ms' : Ms} {H H' : Hp} {M : Sto} {sd : Slo} {σ : L2.St}
theorem Ext.extN (e : ExtN H H') : Ext ms ms H H' := ⟨⟨[], by simp, by simp⟩, rfl, rfl, fun a o h _ t => e a o h t, fun a o h t => ⟨o, e a o h t, t⟩⟩
theorem RelM.extN (R : RelM K T ms M H) (e : ExtN H H') (t : Tabs T H') : RelM K T ms M H' :=
  ⟨R.len, R.nd, fun i a o h1 h2 => (R.ob i a o h1 h2).keep (Ext.extN e).keeps fun u q n => e a u q n, fun a ha => (let ⟨o, q, n⟩ := R.rv a ha; ⟨o, e a o q n, n⟩), t, fun q hq => by
    obtain ⟨h1, od, u, z⟩ := R.pn q hq
    exact ⟨e _ _ h1 (fun ps w => by rw [z] at w; cases w), od, u, z⟩⟩
/-! ### sorted(xs, key=lambda p: p[i]) -/
def keyedD (ds kz : List PyData) : List PyData := ((ds.zip kz).mergeSort (dataLe false Prod.snd)).map Prod.fst
theorem zip3 : ∀ (vs : List V) (ds kz : List PyData), vs.length = ds.length → ((vs.zip ds).zip kz).map (fun q => (q.1.1, q.2)) = vs.zip kz ∧ ((vs.zip ds).zip kz).map (fun q => (q.1.2, q.2)) = ds.zip kz
  | [], [], kz, _ => by simp
  | v :: vs, d :: ds, [], h => by simp
  | v :: vs, d :: ds, k :: kz, h => by
    obtain ⟨h1, h2⟩ := zip3 vs ds kz (by simpa using h)
    simp only [List.zip_cons_cons, List.map_cons]
    exact ⟨by rw [h1], by rw [h2]⟩
  | [], _ :: _, _, h => by simp at h
  | _ :: _, [], _, h => by simp at h
theorem dma_zip : ∀ {vs : List V} {ds : List PyData}, DmAll K ms H vs ds → ∀ q ∈ vs.zip ds, Dm K ms H q.1 q.2
  | _, _, .nil, q, h => by simp at h
  | _, _, .cons a t, q, h => by
    rw [List.zip_cons_cons] at h
    rcases List.mem_cons.mp h with z | z
    · rw [z]; exact a
    · exact dma_zip t q z
theorem dma_of : ∀ (l : List ((V × PyData) × PyData)), (∀ q ∈ l, Dm K ms H q.1.1 q.1.2) → DmAll K ms H (l.map fun q => q.1.1) (l.map fun q => q.1.2)
  | [], _ => .nil
  | q :: l, h => .cons (h q List.mem_cons_self) (dma_of l fun r hr => h r (List.mem_cons_of_mem _ hr))
theorem keyed_dm {vs : List V} {ds kz : List PyData} (h : DmAll K ms H vs ds) : DmAll K ms H (keyed vs kz) (keyedD ds kz) := by
  obtain ⟨e1, e2⟩ := zip3 vs ds kz (dma_len h)
  have m1 := List.map_mergeSort (r := fun (a b : (V × PyData) × PyData) => dataLe (β := (V × PyData) × PyData) false Prod.snd a b) (s := fun (a b : V × PyData) => dataLe false Prod.snd a b) (f := fun q => (q.1.1, q.2)) (l := (vs.zip ds).zip kz) (fun a _ b _ => by rw [dataLe_eq, dataLe_eq])
  have m2 := List.map_mergeSort (r := fun (a b : (V × PyData) × PyData) => dataLe (β := (V × PyData) × PyData) false Prod.snd a b) (s := fun (a b : PyData × PyData) => dataLe false Prod.snd a b) (f := fun q => (q.1.2, q.2)) (l := (vs.zip ds).zip kz) (fun a _ b _ => by rw [dataLe_eq, dataLe_eq])
  unfold keyed keyedD
  rw [← e1, ← e2]
  rw [← m1, ← m2, List.map_map, List.map_map]
  refine dma_of _ fun q hq => ?_
  have hq := (List.mergeSort_perm _ _).mem_iff.mp hq
  exact dma_zip h q.1 (List.of_mem_zip (a := q.1) (b := q.2) hq).1
def keyAt (i : Int) : PyData → Option PyData
  | .tuple es => atI es i
  | _ => none
def keysAt (i : Int) : List PyData → Option (List PyData)
  | [] => some []
  | d :: ds => (keyAt i d).bind fun k => (keysAt i ds).map (k :: ·)
theorem keysAt_len {i : Int} : ∀ {ds kz : List PyData}, keysAt i ds = some kz → kz.length = ds.length
  | [], kz, h => by simp only [keysAt, Option.some.injEq] at h; subst h; rfl
  | d :: ds, kz, h => by
    simp only [keysAt] at h
    cases q1 : keyAt i d with
    | none => rw [q1] at h; cases h
    | some k =>
      rw [q1] at h
      cases q2 : keysAt i ds with
      | none => rw [q2] at h; cases h
      | some ks =>
        rw [q2] at h
        cases h
        rw [List.length_cons, List.length_cons, keysAt_len q2]
theorem keysAt_get {i : Int} : ∀ {ds kz : List PyData} {j : Nat} {k : PyData}, keysAt i ds = some kz → kz[j]? = some k → ∃ d, ds[j]? = some d ∧ keyAt i d = some k
  | [], kz, j, k, h, e => by simp only [keysAt, Option.some.injEq] at h; subst h; simp at e
  | d :: ds, kz, j, k, h, e => by
    simp only [keysAt] at h
    cases q1 : keyAt i d with
    | none => rw [q1] at h; cases h
    | some k1 =>
      rw [q1] at h
      cases q2 : keysAt i ds with
      | none => rw [q2] at h; cases h
      | some ks =>
        rw [q2] at h
        cases h
        cases j with
        | zero =>
          simp at e
          subst e
          exact ⟨d, rfl, q1⟩
        | succ j =>
          obtain ⟨d', h1, h2⟩ := keysAt_get (j := j) (k := k) q2 (by simpa using e)
          exact ⟨d', by simpa using h1, h2⟩
def SortOk (kz : List PyData) : Prop := SortK kz ∧ ∀ d ∈ kz, d.depth ≤ 40
open Classical in
noncomputable def fSortIx (i : Int) (f : Fa) : Fx := fun sd M => (f sd M).bind fun ws M1 => match ws with
  | [w] => match (lsv M1 w).bind datas with
    | some ds => match keysAt i ds with
      | some kz => if SortOk kz then .ok (.d (.list (keyedD ds kz))) M1 else .bad
      | none => .bad
    | none => .bad
  | _ => .bad
theorem fe_sortedIx (K : PySem.W.Frag) {i : Int} {f : Fa} {c P : Addr} {params : Arguments} {body e : Expr} {scope : Scope} {lpos pos p1 kpos : Pos} {p : Str} {k : Nat}
    (TB : TabB X.base X.mg c P) (hcode : X.env.code = .ref c) (hm : (P, X.env.qual ++ "<lambda>") ∈ T) (hu : ∀ p ∈ T, p.1 = P → p.2 = X.env.qual ++ "<lambda>") (gd : Gd X.A) (hr : Room (k + 3) X.A) (hc : X.calm = true)
    (hg : Gl X "sorted") (m_s : X.mg "sorted" = none) (ha : PA X [e] (tA K T f)) (S : FnScope [p] [p] scope)
    (hbody : ∀ (f : Addr) (cd : Value) (A : Around) (outer : List Env) (s : Shared) (H : Hp) (E : XK), Gd A → Room k (A.deeper (envOfC (X.env.qual ++ "<lambda>") scope s.heap.objs.size f cd)) →
      PE (cxOf CX0 X.prog X.w X.K X.mg X.base [p] (X.env.qual ++ "<lambda>") scope f cd A outer s H E).nox body (tOp (rIxT K) (tVar 0) (tC (.int i))))
    (hclo : cloFrom X.env.cells scope.names [] = [] := by rfl)
    (hdef : defaultsOf params X.env = ([], []) := by rfl)
    (hbind : ∀ (u pm cv ctv : Value), bindArgs (kla_fn "<lambda>" (X.env.qual ++ "<lambda>") params body scope (cloFrom X.env.cells scope.names []) pm cv ctv) ⟨[u], []⟩ = pure [(p, u)] := by intro _ _ _ _; rfl)
    (h1 : backTo pos (starEach [e] X.env) = (false, eval e X.env) :: backTo pos (starEach [] X.env) := by rfl) (h2 : (backTo pos (starEach [e] X.env)).any (·.1) = false := by rfl)
    (h3 : (backToKw pos (keywordEach [⟨some "key", .Lambda params body scope lpos, kpos⟩] X.env)).all (·.1.isSome) = true := by rfl) (h4 : (backToKw pos (keywordEach [⟨some "key", .Lambda params body scope lpos, kpos⟩] X.env)).any (·.1.isNone) = false := by rfl)
    (h5 : (backToKw pos (keywordEach [⟨some "key", .Lambda params body scope lpos, kpos⟩] X.env)).filterMap (·.1) = [Str.ofString "key"] := by rfl) (hK : X.K = K := by rfl) :
    PE X (.Call (.Name "sorted" p1) [e] [⟨some "key", .Lambda params body scope lpos, kpos⟩] pos) (tF K T (fSortIx i f)) := by
  subst hK
  refine (pe_sortedLam (T := T) (k := k) TB hcode hm hu gd hr hc hg m_s ha S hbody hclo hdef hbind h1 h2 h3 h4 h5).weak fun σ H Q ⟨ms, sd, M, R, S, h⟩ => tA_use R S h fun ws M1 m1 H1 vs h1 e1 R1 S1 r1 => ?_
  split at h1
  · split at h1
    · rename_i ds eds
      split at h1
      · rename_i kz ek
        split at h1
        · rename_i hs
          cases r1 with
          | cons r t =>
            cases t
            obtain ⟨a, xs, rfl, g1, g2⟩ := lsvd_at R1 eds r
            have lk := keysAt_len ek
            have lx := dma_len g2
            refine ⟨a, xs, kz, rfl, SqL.of g1, by omega, hs.1, hs.2, R1.tb, fun H2 eN T2 => ⟨fun j x kd hx hk H3 s3 => ?_, fun D H' s4 hD hL => ?_⟩⟩
            · obtain ⟨d, hd, hkd⟩ := keysAt_get ek hk
              obtain ⟨x', hx', rx⟩ := dma_get g2 hd
              rw [hx] at hx'
              cases hx'
              have e3 : Ext m1 m1 H1 H3 := (Ext.extN eN).trans (.same s3)
              have rx := rx.keep e3.keep
              unfold keyAt at hkd
              split at hkd
              · obtain ⟨b, us, rfl, k1, k2⟩ := rx.tupE
                obtain ⟨z, hz, rz⟩ := repall_atI (rep_datas k2) (show atI (_ : List Wv) i = some (.d kd) by rw [atI_map, hkd]; rfl)
                exact ⟨_, rfl, b, us, i, z, rfl, rfl, k1.sq, hz, Same.refl _, Dm.dp rz⟩
              · cases hkd
            · have R2 := (R1.extN eN T2)
              have e3 : Ext m1 m1 H1 H' := (Ext.extN eN).trans (.same s4)
              exact h1 m1 H' (.ref D) e3 (R2.same s4) (show Dm X.K m1 H' _ _ from .lst ⟨hL, R2.fresh hD⟩ (keyed_dm (g2.keep e3.keep)))
        · exact h1.elim
      · exact h1.elim
    · exact h1.elim
  · exact h1.elim
end
end Fu

set_option Elab.async false
set_option linter.all false
set_option maxRecDepth 100000
set_option maxHeartbeats 4000000
/-! The functional reading, XII: two fors; tuples several times. -/
namespace Fu
open PySem PySem.Spec PyProof.Rows L2 Dat LamX RZ
section
variable {K : PySem.W.Frag} {T : List (Addr × Str)} {X : Cx} {pos : Pos} {ms ms' : Ms} {H H' : Hp} {M : Sto} {sd : Slo} {σ : L2.St}
/-! ### [.. for .. in .. for .. in ..] -/
open Classical in
noncomputable def lc2L (gd : Option (Nat × List Wv)) (g : Tg) (t : Ft) (it1 : Fi) (g1 : Tg) (t1 : Ft) (f : Fx) (sd : Slo) (vs1 : List Nat) : List Itm → Sto → List PyData → Res (List PyData)
  | [], M, acc => if okG gd M then .ok acc M else .bad
  | it :: its, M, acc => if okG gd M then match bindT g it sd with
    | some sd1 => (t sd1 M).bind fun b M1 => if b = true then (it1 sd1 M1).bind fun I1 M2 => (lcL I1.gd g1 t1 f (wipeD sd1 vs1) I1.its M2 acc).bind fun acc' M3 => lc2L gd g t it1 g1 t1 f sd vs1 its M3 acc'
        else lc2L gd g t it1 g1 t1 f sd vs1 its M1 acc
    | none => .bad else .bad
theorem lc2_loop {J : It} {I : Its} {g g1 : Tg} {t t1 : Ft} {it1 : Fi} {f : Fx} {vs vs1 : List Nat} {D : Addr} {m1 m0 : Ms} {H1 H0 : Hp} {M0 : Sto} {acc0 : List V} {ds0 : List PyData} {Fin : Hp → Prop} (hsub : ∀ i ∈ slT g, i ∈ vs) (hsub1 : ∀ i ∈ slT g1, i ∈ vs1)
    (nD : H1 D = none) (e0 : Ext m1 m0 H1 H0) (R0 : RelM K T (m0.hold D) M0 H0) (h0 : H0 D = some (.lst acc0)) (d0 : DmAll K (m0.hold D) H0 acc0 ds0) (S0 : SloR K (m0.hold D) H0 (wipeD sd vs) (wipe σ vs)) (Wl : Wlk K T (m0.hold D) H0 J I)
    (fin : (lc2L I.gd g t it1 g1 t1 f (wipeD sd vs) vs1 I.its M0 ds0).on fun ds M' => ∀ m2 H2 acc, Ext m1 m2 H1 H2 → Keeps (m0.hold D) (m2.hold D) H0 H2 → RelM K T (m2.hold D) M' H2 → H2 D = some (.lst acc) → DmAll K (m2.hold D) H2 acc ds → Fin H2) :
    ∃ W : Nat → Nat → Hp → Prop, (∃ m, W 0 m H0) ∧ ∀ i m H, W i m H → (J.stop i H ∧ Fin H) ∨ (J.go i H ∧ ∃ Nx : Hp → Prop, (∀ H', Nx H' → ∃ m', m' < m ∧ W (i + 1) m' H') ∧ ∀ x H', J.yld i H x H' → gOf K g x (wipe σ vs) H' fun σ2 H2 => wipe σ2 vs = wipe σ vs ∧ tT K T t σ2 H2 fun b H3 =>
      if b = true then tI K T it1 σ2 H3 fun J1 H4 => ∃ W1 : Nat → Nat → Hp → Prop, (∃ m, W1 0 m H4) ∧ ∀ j k H, W1 j k H →
        (J1.stop j H ∧ Nx H) ∨ (J1.go j H ∧ ∃ Nx1 : Hp → Prop, (∀ H', Nx1 H' → ∃ k', k' < k ∧ W1 (j + 1) k' H') ∧ ∀ x H', J1.yld j H x H' → gOf K g1 x (wipe σ2 vs1) H' fun σ3 H5 => wipe σ3 vs1 = wipe σ2 vs1 ∧ tT K T t1 σ3 H5 fun b H6 =>
          if b = true then tF K T f σ3 H6 fun y H7 => ∃ acc, H7 D = some (.lst acc) ∧ acc.length < sizeLine ∧ Nx1 (upd H7 D (.lst (acc ++ [y]))) else Nx1 H6)
      else Nx H3) := by
  refine ⟨fun i m H2 => m = I.its.length - i ∧ i ≤ I.its.length ∧ ∃ m2 M2 acc ds, Ext m1 m2 H1 H2 ∧ Keeps (m0.hold D) (m2.hold D) H0 H2 ∧ RelM K T (m2.hold D) M2 H2 ∧ H2 D = some (.lst acc) ∧ DmAll K (m2.hold D) H2 acc ds ∧
      (lc2L I.gd g t it1 g1 t1 f (wipeD sd vs) vs1 (I.its.drop i) M2 ds).on fun ds M' => ∀ m2 H2 acc, Ext m1 m2 H1 H2 → Keeps (m0.hold D) (m2.hold D) H0 H2 → RelM K T (m2.hold D) M' H2 → H2 D = some (.lst acc) → DmAll K (m2.hold D) H2 acc ds → Fin H2,
    ⟨_, rfl, Nat.zero_le _, m0, M0, acc0, ds0, e0, .refl, R0, h0, d0, by rw [List.drop_zero]; exact fin⟩, ?_⟩
  rintro i m H2 ⟨rfl, hi, m2, M2, acc, ds, e2, k2, R2, hD, da, h2⟩
  by_cases hlt : i < I.its.length
  · have ei : I.its[i]? = some I.its[i] := List.getElem?_eq_getElem hlt
    rw [List.drop_eq_getElem_cons hlt] at h2
    simp only [lc2L] at h2
    by_cases hg : okG I.gd M2
    · rw [if_pos hg] at h2
      obtain ⟨hgo, hy⟩ := (Wl (m2.hold D) M2 H2 k2 R2 hg).2 i _ ei
      refine .inr ⟨hgo, fun H' => ∃ m', m' < I.its.length - i ∧ m' = I.its.length - (i + 1) ∧ i + 1 ≤ I.its.length ∧ ∃ m2 M2 acc ds, Ext m1 m2 H1 H' ∧ Keeps (m0.hold D) (m2.hold D) H0 H' ∧ RelM K T (m2.hold D) M2 H' ∧ H' D = some (.lst acc) ∧ DmAll K (m2.hold D) H' acc ds ∧
        (lc2L I.gd g t it1 g1 t1 f (wipeD sd vs) vs1 (I.its.drop (i + 1)) M2 ds).on fun ds M' => ∀ m2 H2 acc, Ext m1 m2 H1 H2 → Keeps (m0.hold D) (m2.hold D) H0 H2 → RelM K T (m2.hold D) M' H2 → H2 D = some (.lst acc) → DmAll K (m2.hold D) H2 acc ds → Fin H2,
        fun H' ⟨m', z1, z2, z3, z4⟩ => ⟨m', z1, z2, z3, z4⟩, fun x H3 y => ?_⟩
      obtain ⟨e3, R3, r3⟩ := hy x H3 y
      cases q2 : bindT g I.its[i] (wipeD sd vs) with
      | none => rw [q2] at h2; exact h2.elim
      | some sd3 =>
        rw [q2] at h2
        have S2 : SloR K (m2.hold D) H2 (wipeD sd vs) (wipe σ vs) := S0.keep k2
        refine bind_go g _ x _ sd3 _ _ q2 (S2.ext e3) r3 fun σ3 S3 b3 => ⟨wipe_same b3 hsub, ?_⟩
        refine ⟨m2.hold D, sd3, M2, R3, S3, on_mono (on_bind h2) fun b M4 _ h4 m4 H4 b' e4 R4 rb => ?_⟩
        cases rb
        obtain ⟨m5, rfl, e5⟩ := e4.unhold
        obtain ⟨m3, ez, e3'⟩ := e3.unhold
        have ez : m3 = m2 := by
          obtain ⟨a3, r3, p3⟩ := m3
          obtain ⟨a2, r2, p2⟩ := m2
          simp only [Ms.hold, Ms.mk.injEq, List.cons.injEq, true_and] at ez
          rw [ez.1, ez.2.1, ez.2.2]
        subst ez
        have hD4 : H4 D = some (.lst acc) := by
          have n : D ∉ m3.a := fun z => R2.free.2 (.inl z)
          have q3 := e3'.fr D _ hD n fun ps z => by cases z
          exact e5.fr D _ q3 n fun ps z => by cases z
        have e15 := e2.trans (e3'.trans e5)
        have k24 : Keeps (m3.hold D) (m5.hold D) H2 H4 := e3.keeps.trans e4.keeps
        cases b with
        | false =>
          simp only [Bool.false_eq_true, if_false] at h4 ⊢
          exact ⟨_, by omega, rfl, hlt, m5, M4, acc, ds, e15, k2.trans k24, R4, hD4, da.keep k24.toKeep, h4⟩
        | true =>
          simp only [if_true] at h4 ⊢
          refine ⟨m5.hold D, sd3, M4, R4, S3.ext e4, on_mono (on_bind h4) fun I1 M6 _ h6 m6 H6 J1 e6 R6 Wl1 => ?_⟩
          obtain ⟨m7, rfl, e7⟩ := e6.unhold
          have n5 : D ∉ m5.a := fun z => R4.free.2 (.inl z)
          have hD6 : H6 D = some (.lst acc) := e7.fr D _ hD4 n5 fun ps z => by cases z
          have k46 : Keeps (m3.hold D) (m7.hold D) H2 H6 := k24.trans e6.keeps
          have S6 := (S3.ext e4).ext e6
          refine lc_loop (m1 := m1) (m0 := m7) (H1 := H1) (H0 := H6) (M0 := M6) (acc0 := acc) (ds0 := ds) (sd := sd3) (σ := σ3) (vs := vs1) hsub1 nD (e15.trans e7) R6 hD6 (da.keep k46.toKeep) (S6.wipe vs1) Wl1 ?_
          refine on_mono (on_bind h6) fun ds' M8 _ h8 m8 H8 acc' e8 k8 R8 hD8 da8 => ?_
          exact ⟨_, by omega, rfl, hlt, m8, M8, acc', ds', e8, (k2.trans k46).trans k8, R8, hD8, da8, h8⟩
    · rw [if_neg hg] at h2
      exact h2.elim
  · have ei : i = I.its.length := by omega
    subst ei
    rw [List.drop_length] at h2
    simp only [lc2L] at h2
    by_cases hg : okG I.gd M2
    · rw [if_pos hg] at h2
      exact .inl ⟨(Wl (m2.hold D) M2 H2 k2 R2 hg).1, h2 m2 H2 acc e2 k2 R2 hD da⟩
    · rw [if_neg hg] at h2
      exact h2.elim
noncomputable def fLc2 (it : Fi) (g : Tg) (t : Ft) (it1 : Fi) (g1 : Tg) (t1 : Ft) (f : Fx) (vs vs1 : List Nat) : Fx := fun sd M => (it sd M).bind fun I M1 => (lc2L I.gd g t it1 g1 t1 f (wipeD sd vs) vs1 I.its M1 []).bind fun ds M2 => .ok (.d (.list ds)) M2
theorem t_lc2 {it it1 : Fi} {g g1 : Tg} {t t1 : Ft} {f : Fx} {vs vs1 : List Nat} (hsub : ∀ i ∈ slT g, i ∈ vs) (hsub1 : ∀ i ∈ slT g1, i ∈ vs1) : ∀ σ H Q, tF K T (fLc2 it g t it1 g1 t1 f vs vs1) σ H Q → tLc2 (tI K T it) (gOf K g) (tT K T t) (tI K T it1) (gOf K g1) (tT K T t1) (tF K T f) vs vs1 σ H Q := fun σ H Q ⟨ms, sd, M, R0, S, h⟩ => by
  refine ⟨ms, sd, M, R0, S, on_mono (on_bind h) fun I M1 _ h1 m1 H1 J e1 R1 Wl D hD => ?_⟩
  have k1 := keeps_hold (ms := m1) (o := .lst []) hD
  refine lc2_loop (m1 := m1) (m0 := m1) (H1 := H1) (M0 := M1) (acc0 := []) (ds0 := []) (sd := sd) hsub hsub1 hD ((Ext.refl m1 H1).putD hD) (R1.hold hD) upd_same .nil (((S.ext e1).keep k1).wipe vs) (Wl.go k1) ?_
  refine on_mono (on_bind h1) fun ds M2 _ h2 m2 H2 acc e2 k2 R2 hD2 da => ?_
  obtain ⟨R3, n3⟩ := R2.free
  exact h2 m2 H2 (.ref D) (e1.trans e2) R3 (show Dm K m2 H2 (.ref D) (.list ds) from .lst ⟨hD2, n3⟩ (da.keep keeps_free.toKeep))
theorem fe_lc2 {elt tg iter tg1 iter1 : Expr} {ifs ifs1 : List Expr} {scope : Scope} {own : List (Str × Nat)} {vs1 : List Nat} {it it1 : Fi} {g g1 : Tg} {t t1 : Ft} {f : Fx} (hc : X.calm = true) (hN : X.N.Nodup) (hi : PI X tg iter (tI K T it)) (ok : BlkOk X.N X.env.scope scope own) (hv : ∀ i ∈ vs1, i ∈ own.map (·.2)) (hsub : ∀ i ∈ slT g, i ∈ own.map (·.2)) (hsub1 : ∀ i ∈ slT g1, i ∈ vs1)
    (hg : ∀ (s : Shared) (H : Hp) (C : Addr) (cl : List (Str × Addr)) (fp : List Addr), PG (X.blk s H scope (compEnvC scope cl C X.env) fp) tg (gOf K g)) (ht : ∀ (s : Shared) (H : Hp) (C : Addr) (cl : List (Str × Addr)) (fp : List Addr), PTs (X.blk s H scope (compEnvC scope cl C X.env) fp) ifs (tT K T t))
    (hi1 : ∀ (s : Shared) (H : Hp) (C : Addr) (cl : List (Str × Addr)) (fp : List Addr), PI (X.blk s H scope (compEnvC scope cl C X.env) fp) tg1 iter1 (tI K T it1))
    (hg1 : ∀ (s : Shared) (H : Hp) (C : Addr) (cl : List (Str × Addr)) (fp : List Addr), PG (X.blk s H scope (compEnvC scope cl C X.env) fp) tg1 (gOf K g1)) (ht1 : ∀ (s : Shared) (H : Hp) (C : Addr) (cl : List (Str × Addr)) (fp : List Addr), PTs (X.blk s H scope (compEnvC scope cl C X.env) fp) ifs1 (tT K T t1))
    (he : ∀ (s : Shared) (H : Hp) (C : Addr) (cl : List (Str × Addr)) (fp : List Addr), PE (X.blk s H scope (compEnvC scope cl C X.env) fp) elt (tF K T f)) (hs : ∀ x, foldedSetIterable iter X.env x = pure x := by intro _; rfl) (hs1 : ∀ env x, foldedSetIterable iter1 env x = pure x := by intro _ _; rfl) :
    PE X (.ListComp elt [⟨tg, iter, ifs, 0⟩, ⟨tg1, iter1, ifs1, 0⟩] scope pos) (tF K T (fLc2 it g t it1 g1 t1 f (own.map (·.2)) vs1)) := (pe_lc2 hc hN hi ok hv hg ht hi1 hg1 ht1 he hs hs1).weak (t_lc2 hsub hsub1)
theorem fs_setLc2 {i : Nat} {y : Str} {py : Pos} {elt tg iter tg1 iter1 : Expr} {ifs ifs1 : List Expr} {scope : Scope} {own : List (Str × Nat)} {vs1 : List Nat} {spos : Pos} {it it1 : Fi} {g g1 : Tg} {t t1 : Ft} {f : Fx} (hc : X.calm = true) (hN : X.N.Nodup) (hy : X.N[i]? = some y) (hyl : X.env.scope.names.lookup y = some .local)
    (hsw : swapsWith (.ListComp elt [⟨tg, iter, ifs, 0⟩, ⟨tg1, iter1, ifs1, 0⟩] scope pos) (some (.Name y py)) spos.line X.env = pure true) (hi : PI X tg iter (tI K T it)) (ok : BlkOk X.N X.env.scope scope own) (hv : ∀ i ∈ vs1, i ∈ own.map (·.2)) (hsub : ∀ i ∈ slT g, i ∈ own.map (·.2)) (hsub1 : ∀ i ∈ slT g1, i ∈ vs1)
    (hg : ∀ (s : Shared) (H : Hp) (C : Addr) (cl : List (Str × Addr)) (fp : List Addr), PG (X.blk s H scope (compEnvC scope cl C X.env) fp) tg (gOf K g)) (ht : ∀ (s : Shared) (H : Hp) (C : Addr) (cl : List (Str × Addr)) (fp : List Addr), PTs (X.blk s H scope (compEnvC scope cl C X.env) fp) ifs (tT K T t))
    (hi1 : ∀ (s : Shared) (H : Hp) (C : Addr) (cl : List (Str × Addr)) (fp : List Addr), PI (X.blk s H scope (compEnvC scope cl C X.env) fp) tg1 iter1 (tI K T it1))
    (hg1 : ∀ (s : Shared) (H : Hp) (C : Addr) (cl : List (Str × Addr)) (fp : List Addr), PG (X.blk s H scope (compEnvC scope cl C X.env) fp) tg1 (gOf K g1)) (ht1 : ∀ (s : Shared) (H : Hp) (C : Addr) (cl : List (Str × Addr)) (fp : List Addr), PTs (X.blk s H scope (compEnvC scope cl C X.env) fp) ifs1 (tT K T t1))
    (he : ∀ (s : Shared) (H : Hp) (C : Addr) (cl : List (Str × Addr)) (fp : List Addr), PE (X.blk s H scope (compEnvC scope cl C X.env) fp) elt (tF K T f)) (hs : ∀ x, foldedSetIterable iter X.env x = pure x := by intro _; rfl) (hs1 : ∀ env x, foldedSetIterable iter1 env x = pure x := by intro _ _; rfl) :
    PS X (.Assign [.Name y py] (.ListComp elt [⟨tg, iter, ifs, 0⟩, ⟨tg1, iter1, ifs1, 0⟩] scope pos) spos) (tS K T (fSet i (fLc2 it g t it1 g1 t1 f (own.map (·.2)) vs1))) :=
  (ps_setLc2 hc hN hy hyl hsw hi ok hv hg ht hi1 hg1 ht1 he hs hs1).weak fun D σ H h => t_lc2 hsub hsub1 σ H _ (t_set D σ H h)
end
end Fu

set_option Elab.async false
set_option linter.all false
set_option maxRecDepth 100000
set_option maxHeartbeats 4000000
/-! The functional reading, XIII: a tuple several times over; list(enumerate(t)). -/
namespace Fu
open PySem PySem.Spec PyProof.Rows L2 Dat LamX RZ
open AutoSeq1 (wpAny_loadPart')
theorem tuple_mul0 (l : Addr) (items : Array Value) (n : Nat) (dd : Option Addr) (sl : Array (Option Value)) (x : Int) (u : Tok) (c0 : (decide (x < -(2 ^ 63)) || decide (x ≥ 2 ^ 63)) = false) (c1 : (items.isEmpty || x == 1) = true) :
    Meets (Builtin.«tuple.__mul__» ⟨[.ref l, .int x u], []⟩) (fun _ R s => s.heap.get? l = some { cls := .type "tuple", dict := dd, data := .seq items n, slots := sl } ∧ R (.ok (.ret (Value.ref l))) s) :=
  .of_wp fun prog w A R s h => by
    obtain ⟨hp, g, d, tk, os⟩ := s
    obtain ⟨hl, h⟩ := h
    have f1 := AutoSeq1.idx_int
    wp_walk using wpAny_loadPart' hl
    repeat (first
      | (refine wpAny_ite_false (decide_eq_false (by rw [c0]; exact Bool.false_ne_true)) ?_; wp_walk using wpAny_loadPart' hl)
      | (refine wpAny_ite_true (decide_eq_true c1) ?_; wp_walk using wpAny_loadPart' hl))
    exact ⟨_, rfl, h⟩
section
variable {K : PySem.W.Frag} {T : List (Addr × Str)} {X : Cx} {pos : Pos} {ms ms' : Ms} {H H' : Hp} {M : Sto} {sd : Slo} {σ : L2.St}
def rRepF (K : PySem.W.Frag) : R2 := fun x y H Q => ∃ l k xs, x = .ref l ∧ y = .int k ∧ SqT K H l xs ∧ -(2 ^ 63) ≤ k ∧ k < 2 ^ 63 ∧ ((xs = [] ∧ Q (.ref l) H) ∨
  (xs ≠ [] ∧ 2 ≤ k ∧ k ≤ 1000 ∧ xs.length ≤ 1000 ∧ ∀ (p : Addr) (o : Obj), H p = none → o.dict = none → Q (.ref p) (upd H p (.frz o (.tup (List.replicate k.toNat xs).flatten)))))
theorem op_repF : OpR X (binaryOp .Mult) (rRepF X.K) := by
  intro pins s σ H x y v u Q I rx ry h
  obtain ⟨l, k, xs, rfl, rfl, hT, b1, b2, h⟩ := h
  cases rx
  obtain ⟨t, rfl⟩ := ry
  obtain ⟨its, r, ⟨⟨cls, dd, data, sl⟩, ho, hc, n, hd⟩, hs⟩ := I.tuple hT
  simp only at hc hd
  subst hc hd
  have c0 : (decide (k < -(2 ^ 63)) || decide (k ≥ 2 ^ 63)) = false := by
    rw [decide_eq_false (by omega), decide_eq_false (by omega)] <;> rfl
  rcases h with ⟨rfl, q⟩ | ⟨hne, h1, h2, hz, q⟩
  · have hi : its = [] := by cases r; rfl
    subst hi
    exact wpAny_binaryOp_repeat_ref (T := "tuple") (U := "int") (by decide) ⟨_, ho, rfl⟩ (fun s' => typeIs_int s' k t) noFill_tuple_mul PySem.F.fills_int_mul PySem.F.slot_int_rmul repeat_tuple PySem.F.slot_int_index.lookup
      (call_meets PySem.F.slot_int_rmul (typeIs_int s k t) PySem.F.entry_int_rmul (PySem.F.args_int_rmul_2 _ _) (int_rmul_tuple k t l _ n dd sl)
        ⟨ho, rfl, ⟨_, ho, rfl⟩, call_meets PySem.F.slot_tuple_mul ⟨_, ho, rfl⟩ PySem.F.entry_tuple_mul (PySem.F.args_tuple_mul_2 _ _) (tuple_mul0 l _ n dd sl k t c0 (by simp)) ⟨ho, .ref l, H, I, rfl, q⟩⟩)
  · have hle : its.length = xs.length := r.length.symm
    have hn : its ≠ [] := fun e => hne (by
      rw [e] at hle
      exact List.eq_nil_of_length_eq_zero hle.symm)
    have hi : its.toArray.isEmpty = false := by
      cases its with
      | nil => exact absurd rfl hn
      | cons a b => rfl
    have hsz0 : its.toArray.size = xs.length := by rw [List.size_toArray, hle]
    have hm : ((its.toArray.size : Nat) : Int) * k ≤ 1000000 := by
      rw [hsz0]
      have a1 : ((xs.length : Nat) : Int) * k ≤ 1000 * k := Int.mul_le_mul_of_nonneg_right (by omega) (by omega)
      omega
    have flen : (List.replicate k.toNat its).flatten.length ≤ sizeLine := by
      rw [PyProof.Rows.lm_len_rep_flat, hle, sizeLine_eq]
      have a1 : k.toNat * xs.length ≤ 1000 * 1000 := Nat.mul_le_mul (by omega) hz
      omega
    have c1 : (its.toArray.isEmpty || k == 1) = false := by
      rw [hi, Bool.false_or]
      exact beq_eq_false_iff_ne.mpr (by omega)
    have c2 : (decide (k ≤ 0) || its.toArray.isEmpty) = false := by
      rw [hi, Bool.or_false]
      exact decide_eq_false (by omega)
    have c4 : Builtin.Tuple.tupleTooMany (((its.toArray.size : Nat) : Int) * k) = false := by
      unfold Builtin.Tuple.tupleTooMany
      rw [sizeLine_eq]
      exact decide_eq_false (by omega)
    refine wpAny_binaryOp_repeat_ref (T := "tuple") (U := "int") (by decide) ⟨_, ho, rfl⟩ (fun s' => typeIs_int s' k t) noFill_tuple_mul PySem.F.fills_int_mul PySem.F.slot_int_rmul repeat_tuple PySem.F.slot_int_index.lookup
      (call_meets PySem.F.slot_int_rmul (typeIs_int s k t) PySem.F.entry_int_rmul (PySem.F.args_int_rmul_2 _ _) (int_rmul_tuple k t l its.toArray n dd sl)
        ⟨ho, rfl, ⟨_, ho, rfl⟩, call_meets PySem.F.slot_tuple_mul ⟨_, ho, rfl⟩ PySem.F.entry_tuple_mul (PySem.F.args_tuple_mul_2 _ _) (tuple_mulW l its.toArray n dd sl k t c0 c1 c2 (by omega) c4 (by rw [size_rep, List.size_toArray]; exact flen)) ⟨ho, ?_⟩⟩)
    rw [size_rep]
    exact ⟨.ref s.heap.objs.size, _, laidT I (r.rep k.toNat) (by rw [PyProof.Rows.lm_len_rep_flat, sizeLine_eq]; have a1 : k.toNat * xs.length ≤ 1000 * 1000 := Nat.mul_le_mul (by omega) hz; omega), rfl, q _ _ (I.hok.fresh (Nat.le_refl _)) rfl⟩
theorem k_repF (K : PySem.W.Frag) (h : X.K = K := by rfl) : OpR X (binaryOp .Mult) (rRepF K) := h ▸ op_repF
def oMulT : Fo := fun x y M => match x, y with
  | .d (.tuple ds), .d (.int k) => if -(2 ^ 63) ≤ k ∧ k < 2 ^ 63 then (match ds with
    | [] => .ok (.d (.tuple [])) M
    | _ => if 2 ≤ k ∧ k ≤ 1000 ∧ ds.length ≤ 1000 then .ok (.d (.tuple (List.replicate k.toNat ds).flatten)) M else .bad) else .bad
  | _, _ => .bad
theorem dma_rep {vs : List V} {ds : List PyData} (h : DmAll K ms H vs ds) : ∀ k : Nat, DmAll K ms H (List.replicate k vs).flatten (List.replicate k ds).flatten
  | 0 => .nil
  | k + 1 => by
    rw [List.replicate_succ, List.replicate_succ, List.flatten_cons, List.flatten_cons]
    exact dma_app h (dma_rep h k)
theorem k2_mulT : OkR2 K T (rRepF K) oMulT := by
  intro ms M H x y v u Q R rx ry h
  unfold oMulT at h
  split at h
  · rename_i ds k
    split at h
    · rename_i hk
      cases ry
      obtain ⟨a, vs, rfl, h1, h2⟩ := Dm.tupE rx
      refine ⟨a, k, vs, rfl, rfl, h1.sq, hk.1, hk.2, ?_⟩
      split at h
      · cases h2
        exact .inl ⟨rfl, h.here R rx⟩
      · rename_i hne
        split at h
        · rename_i hc
          have lv := dma_len h2
          refine .inr ⟨fun z => ?_, hc.1, hc.2.1, by omega, fun p o hp ho => h ms _ _ (.new hp) (R.new hp) (dm_newT (dma_rep h2 _) hp (R.fresh hp) ho)⟩
          subst z
          cases h2
          exact hne rfl
        · exact h.elim
    · exact h.elim
  · exact h.elim
end

/-! ### list(enumerate(t)) -/
theorem enum_no_len : typeLookup (.type "enumerate") "__len__" = pure none := by rw [typeLookup_type, builtinLookup_eq_fast]; kernel_rfl
theorem enum_no_hint : typeLookup (.type "enumerate") "__length_hint__" = pure none := by rw [typeLookup_type, builtinLookup_eq_fast]; kernel_rfl
/-- how far it is, the pair ahead still held -/
def EnSt (h : Heap) (e it l S : Addr) (items : Array Value) (i : Nat) : Prop :=
  (h.IsTupleIter it l i ∧ h.IsTuple l items) ∧ ((∃ old, IsEnum h e it i old) ∨ ∃ old T f oT, IsEnumHeld h e it i old T f ∧ h.get? T = some oT ∧ T ≠ e ∧ T ≠ it ∧ T ≠ S)
section
variable {P : Program} {w : World} {A : Around} {s : Shared} {E : Value → Shared → Prop} {e it l S : Addr} {items : Array Value}
theorem EnSt.keep {h h' : Heap} {i : Nat} (x : EnSt h e it l S items i) (k : ∀ b o, b ≠ S → h.get? b = some o → h'.get? b = some o) (e1 : e ≠ S) (e2 : it ≠ S) (e3 : l ≠ S) : EnSt h' e it l S items i := by
  obtain ⟨⟨⟨o1, a1, r1⟩, ⟨o2, a2, r2⟩⟩, x⟩ := x
  refine ⟨⟨⟨o1, k _ _ e2 a1, r1⟩, ⟨o2, k _ _ e3 a2, r2⟩⟩, ?_⟩
  rcases x with ⟨old, x⟩ | ⟨old, T, f, oT, x, y, z⟩
  · exact .inl ⟨old, k _ _ e1 x⟩
  · exact .inr ⟨old, T, f, oT, k _ _ e1 x, k _ _ z.2.2 y, z⟩
theorem en_item {i : Nat} {Q : Option Value → Shared → Prop} (hh : A.handled = none) (ei : e ≠ it) (le : l ≠ e) (li : l ≠ it) (st : EnSt s.heap e it l S items i) (hS : S < s.heap.objs.size) (hi : i < items.size)
    (q : ∀ (x : Value) (h' : Heap) (tk : Tok), items[i]? = some x → EnSt h' e it l S items (i + 1) → h'.get? s.heap.objs.size = some { cls := .type "tuple", data := .seq #[.int i tk, x] } →
      (∀ b o, b ≠ e → b ≠ it → s.heap.get? b = some o → h'.get? b = some o) → Q (some (.ref s.heap.objs.size)) { s with heap := h', toks := tk + 1 }) : wpAny (model P w) A (pyNext (.ref e)) Q E s := by
  have nf : e ∉ [it, l] := by simp [ei, le.symm]
  have D := Draws.tuple (prog := P) (w := w) (A := A.in1) hh it l li items
  obtain ⟨st, he⟩ := st
  have ec : ((i + 1 : Nat) : Int) = (i : Int) + 1 := by omega
  have ni : s.heap.objs.size ≠ it := by
    obtain ⟨_, x, _⟩ := st.1
    exact Nat.ne_of_gt (Heap.lt_size x)
  rcases he with ⟨old, he⟩ | ⟨old, T, f, oT, he, hT, r1, r2, r3⟩
  · refine wpAny_pyNext_enum_itemD D he st hi ei nf fun x h' tk hx ho st' hT _ k => ?_
    exact q x h' tk hx ⟨st', .inr ⟨_, s.heap.objs.size, false, _, by rw [ec]; exact ho, hT, Nat.ne_of_gt (Heap.lt_size he), ni, Nat.ne_of_gt hS⟩⟩ hT k
  · refine enum_pyNext D he hT r1 r2 st hi ei nf fun x h' tk hx ho st' hT' k => ?_
    exact q x h' tk hx ⟨st', .inr ⟨old, T, true, oT, by rw [ec]; exact ho, k _ _ r1 r2 hT, r1, r2, r3⟩⟩ hT' k
theorem en_done {Q : Option Value → Shared → Prop} (hh : A.handled = none) (li : l ≠ it) (st : EnSt s.heap e it l S items items.size) (q : ∀ h', (∀ b o, b ≠ it → s.heap.get? b = some o → h'.get? b = some o) → Q none { s with heap := h' }) :
    wpAny (model P w) A (pyNext (.ref e)) Q E s := by
  have D := Draws.tuple (prog := P) (w := w) (A := A.in1) hh it l li items
  obtain ⟨st, he⟩ := st
  rcases he with ⟨old, he⟩ | ⟨old, T, f, oT, he, _⟩
  · exact wpAny_pyNext_enum_endD D he st fun h' k => q h' k
  · exact enum_stop D he st fun h' k => q h' k
end
section
variable {P : Program} {w : World} {A : Around} {s : Shared} {R : Result → Shared → Prop} {e it l S : Addr} {items : Array Value}
open PySem.W
theorem en_pairs {i : Nat} {x : Value} {tk : Tok} (h : items[i]? = some x) : ∃ k y, (enL 0 items.toList)[i]? = some (k, y) ∧ (mixKind P w).is k (.int i tk) = true ∧ y = x := by
  refine ⟨.inl (i : Int), x, ?_, ?_, rfl⟩
  · rw [enL_get]
    have h' : items.toList[i]? = some x := by simpa using h
    rw [h', Nat.zero_add]
    rfl
  · show Value.isInt (i : Int) (.int i tk) = true
    simp [Value.isInt]
theorem en_loop {lo : Addr} (hh : A.handled = none) (ei : e ≠ it) (le : l ≠ e) (li : l ≠ it) (nSe : S ≤ lo) (nee : e ≤ lo) (nie : it ≤ lo) (eS : e ≠ S) (iS : it ≠ S) (lS : l ≠ S) (hn : items.size ≤ sizeLine) (res : Value) {h₁ : Heap}
    (hR : ∀ h' tk acc c as, (∀ b o, b ≠ S → b ≠ e → b ≠ it → h₁.get? b = some o → h'.get? b = some o) → h'.get? S = some { cls := .type "list", dict := none, data := .seq acc c, slots := #[] } → as.length = items.size → KdxG (mixKind P w) (enL 0 items.toList) lo h' as →
      acc.toList = as.map Value.ref → R (.ok (.ret res)) { s with heap := h', toks := tk }) :
    ∀ (k i : Nat) (h : Heap) (tk c : Nat) (acc : Array Value) (as : List Addr), items.size - i = k → i ≤ items.size → EnSt h e it l S items i → (∀ b o, b ≠ S → b ≠ e → b ≠ it → h₁.get? b = some o → h.get? b = some o) →
      h.get? S = some { cls := .type "list", dict := none, data := .seq acc c, slots := #[] } → acc.toList = as.map Value.ref → as.length = i → KdxG (mixKind P w) (enL 0 items.toList) lo h as → lo < h.objs.size →
      codeAny (model P w) A (.builtin "list.extend.loop" ⟨[.ref S, .ref e, res], []⟩) R { s with heap := h, toks := tk } := by
  intro k
  induction k with
  | zero =>
    intro i h tk c acc as hk hi hst hkeep hS hacc hal hG hIs
    have hin : i = items.size := by omega
    subst hin
    refine codeAny_builtin PySem.F.entry_extend_loop ?_
    rw [Around.under_plainId PySem.F.plain_extend_loop _]
    show wpAny _ A.in1 (pyNext (.ref e) >>= _) _ _ _
    refine wpAny_bind (en_done (s := { s with heap := h, toks := tk }) (A := A.in1) hh li hst fun h' he => ?_)
    refine wpAny_pure (hR h' tk acc c as (fun b o h1 h2 h3 q => he b o h3 (hkeep b o h1 h2 h3 q)) (he S _ iS.symm hS) hal ⟨hG.rise, hG.above, fun j a hj => ?_⟩ hacc)
    obtain ⟨key, kk, x, e1, e2, e3⟩ := hG.pairs j a hj
    exact ⟨key, kk, x, e1, e2, he a _ (Nat.ne_of_gt (Nat.lt_of_le_of_lt nie (hG.above a (List.mem_of_getElem? hj)))) e3⟩
  | succ k ih =>
    intro i h tk c acc as hk hi hst hkeep hS hacc hal hG hIs
    have hlt : i < items.size := by omega
    have hsz : acc.size = i := by rw [← Array.length_toList, hacc, List.length_map, hal]
    refine codeAny_builtin PySem.F.entry_extend_loop ?_
    rw [Around.under_plainId PySem.F.plain_extend_loop _]
    show wpAny _ A.in1 (pyNext (.ref e) >>= _) _ _ _
    refine wpAny_bind (en_item (s := { s with heap := h, toks := tk }) (S := S) hh ei le li hst (Heap.lt_size hS) hlt fun x h' tk' hx hst' ht hkp => ?_)
    dsimp only at ht hkp ⊢
    have hS' := hkp S _ eS.symm iS.symm hS
    have up : ∀ b o, b ≠ S → h'.get? b = some o → (h'.update S (Obj.mapSeq (·.push (Value.ref h.objs.size)))).get? b = some o := fun b o hb q => (Heap.get?_update_other _ _ (Ne.symm hb)).trans q
    have hSl : S < h.objs.size := Heap.lt_size hS
    show wpAny _ A.in1 (updateSeq S (·.push (Value.ref h.objs.size)) >>= _) _ _ _
    refine wpAny_bind ?_
    refine wpAny_updateSeq hS' rfl (wpAny_pure ⟨plainId_quiet PySem.F.plain_extend_loop _, ih (i + 1) _ _ _ (acc.push (Value.ref h.objs.size)) (as ++ [h.objs.size]) (by omega) hlt (hst'.keep up eS iS lS)
      (fun b o h1 h2 h3 q => up b o h1 (hkp b o h2 h3 (hkeep b o h1 h2 h3 q))) (Heap.get?_update_self _ hS' rfl) (by rw [Array.toList_push, hacc, List.map_append]; rfl) (by rw [List.length_append, hal]; rfl) ⟨?_, ?_, ?_⟩ ?_⟩) (by rw [hsz]; omega) (by show (acc.push (Value.ref h.objs.size)).size ≤ sizeLine + 1; rw [Array.size_push, hsz]; omega)
    · refine List.pairwise_append.mpr ⟨hG.rise, List.pairwise_singleton _ _, fun a ha b hb => ?_⟩
      rw [List.mem_singleton.mp hb]
      exact hG.there ha
    · intro a ha
      rcases List.mem_append.mp ha with ha | ha
      · exact hG.above a ha
      · rw [List.mem_singleton.mp ha]; exact hIs
    · intro j b hj
      rcases Nat.lt_trichotomy j as.length with h1 | h1 | h1
      · rw [List.getElem?_append_left h1] at hj
        obtain ⟨key', k', x', e1, e2, e3⟩ := hG.pairs j b hj
        have hb := hG.above b (List.mem_of_getElem? hj)
        exact ⟨key', k', x', e1, e2, up b _ (Nat.ne_of_gt (Nat.lt_of_le_of_lt nSe hb)) (hkp b _ (Nat.ne_of_gt (Nat.lt_of_le_of_lt nee hb)) (Nat.ne_of_gt (Nat.lt_of_le_of_lt nie hb)) e3)⟩
      · subst h1
        have hb : h.objs.size = b := by simpa using hj
        subst hb
        obtain ⟨kk, y, q1, q2, q3⟩ := en_pairs (P := P) (w := w) (tk := tk') hx
        subst q3
        exact ⟨_, kk, y, by rw [hal]; exact q1, q2, up _ _ (Nat.ne_of_gt hSl) ht⟩
      · have hnone : (as ++ [h.objs.size])[j]? = none := List.getElem?_eq_none (by rw [List.length_append, List.length_singleton]; omega)
        rw [hnone] at hj; cases hj
    · have q : (h'.update S (Obj.mapSeq (·.push (Value.ref h.objs.size)))).get? h.objs.size = _ := up _ _ (Nat.ne_of_gt hSl) ht
      exact Nat.lt_trans hIs (Heap.lt_size q)
theorem en_extend (hh : A.handled = none) (ei : e ≠ it) (le : l ≠ e) (li : l ≠ it) (eS : e ≠ S) (iS : it ≠ S) (lS : l ≠ S) (hn : items.size ≤ sizeLine) (res : Value) {lo : Addr} (nSe : S ≤ lo) (nee : e ≤ lo) (nie : it ≤ lo) (hlo : lo < s.heap.objs.size)
    (st : EnSt s.heap e it l S items 0) {old0 : Value} (he0 : IsEnum s.heap e it 0 old0) {c₀ : Nat} (hS : s.heap.get? S = some { cls := .type "list", data := .seq #[] c₀ })
    (hR : ∀ h' tk acc c as, (∀ b o, b ≠ S → b ≠ e → b ≠ it → s.heap.get? b = some o → h'.get? b = some o) → h'.get? S = some { cls := .type "list", dict := none, data := .seq acc c, slots := #[] } → as.length = items.size → KdxG (mixKind P w) (enL 0 items.toList) lo h' as →
      acc.toList = as.map Value.ref → R (.ok (.ret res)) { s with heap := h', toks := tk }) :
    wpAny (model P w) A.in1 (Builtin.List.listExtendWith (.ref S) (.ref e) res)
      (fun fin s' => match fin with | .done f => R (.ok f) s' | .again c' => c'.quiet = true ∧ codeAny (model P w) A c' R s') (fun e s' => R (.error e) s') s := by
  have hT : s.TypeIs (.ref e) "enumerate" := ⟨_, he0, rfl⟩
  unfold Builtin.List.listExtendWith
  refine wpAny_bind (wpAny_typeOf hT ?_)
  have h1 : Builtin.List.listSameRef (.ref S) (.ref e) = false := by simp [Builtin.List.listSameRef, eS.symm]
  have h2 : (Value.type "enumerate" == Value.type "list") = false := by decide
  have h3 : (Value.type "enumerate" == Value.type "tuple") = false := by decide
  simp only [h1, h2, h3, Bool.or_false, Bool.false_eq_true, if_false]
  refine wpAny_bind (wpAny_pyIter_enum he0 ?_)
  refine wpAny_bind (wpAny_holding ?_)
  unfold Builtin.List.listLengthHint
  refine wpAny_bind (wpAny_specialOf hT enum_no_len ?_)
  show wpAny _ A.in1 (specialOf (Value.ref e) (Str.ofString "__length_hint__") >>= _) _ _ _
  refine wpAny_bind (wpAny_specialOf hT enum_no_hint ?_)
  refine wpAny_pure ?_
  show wpAny _ A.in1 (rule "list.extend.makes-room" >>= fun _ => Builtin.List.listTouch (.ref S) >>= fun _ =>
    again (.builtin "list.extend.loop" ⟨[.ref S, .ref e, res], []⟩)) _ _ _
  refine wpAny_bind (wpAny_rule ?_)
  refine wpAny_bind ?_
  show wpAny _ A.in1 (updateSeq S (·.push .none) >>= fun _ => updateSeq S (·.pop)) _ _ _
  refine wpAny_bind (wpAny_updateSeq hS rfl ?_)
  have hS₂ := Heap.get?_update_self (Obj.mapSeq (·.push Value.none)) hS rfl
  refine wpAny_updateSeq (hz := by seq_fits) hS₂ rfl ?_
  have hS₃ := Heap.get?_update_self (Obj.mapSeq (·.pop)) hS₂ rfl
  have oth : ∀ b o, b ≠ S → s.heap.get? b = some o → ((s.heap.update S (Obj.mapSeq (·.push Value.none))).update S (Obj.mapSeq (·.pop))).get? b = some o :=
    fun b o hb e => (Heap.get?_update_other _ _ (Ne.symm hb)).trans ((Heap.get?_update_other _ _ (Ne.symm hb)).trans e)
  refine wpAny_pure ⟨plainId_quiet PySem.F.plain_extend_loop _, ?_⟩
  exact en_loop (s := s) (h₁ := s.heap) hh ei le li nSe nee nie eS iS lS hn res hR items.size 0 _ _ _ #[] [] (Nat.sub_zero _) (Nat.zero_le _) (st.keep oth eS iS lS) (fun b o h1 _ _ q => oth b o h1 q) hS₃ rfl rfl
    ⟨List.Pairwise.nil, (fun _ ha => nomatch ha), (fun j a hj => by simp at hj)⟩ (by rw [Heap.size_update, Heap.size_update]; exact hlo)
end
section
variable {P : Program} {w : World} {A : Around} {s : Shared} {E : Value → Shared → Prop} {e it l : Addr} {items : Array Value}
open PySem.W
theorem en_call {Q : Value → Shared → Prop} (hh : A.handled = none) (ei : e ≠ it) (le : l ≠ e) (li : l ≠ it) (hn : items.size ≤ sizeLine) {old0 : Value} (he0 : IsEnum s.heap e it 0 old0) (hit : s.heap.IsTupleIter it l 0) (tp : s.heap.IsTuple l items)
    (hQ : ∀ h' tk acc c as, (∀ b o, b ≠ e → b ≠ it → s.heap.get? b = some o → h'.get? b = some o) → h'.get? s.heap.objs.size = some { cls := .type "list", dict := none, data := .seq acc c, slots := #[] } → as.length = items.size → KdxG (mixKind P w) (enL 0 items.toList) s.heap.objs.size h' as →
      acc.toList = as.map Value.ref → Q (.ref s.heap.objs.size) { s with heap := h', toks := tk }) :
    wpAny (model P w) A (call (.type "list") [.ref e]) Q E s := by
  refine callType_codes (Q₁ := fun obj s₁ => obj = .ref s.heap.objs.size ∧ s₁ = { s with heap := s.heap.push { cls := .type "list", data := .seq #[] } }) PySem.F.called_list (PySem.F.typeCall_list_1 _) PySem.F.entry_list_init
    (code_list_new _ ⟨rfl, rfl⟩) fun obj s₁ h₁ => ?_
  obtain ⟨rfl, rfl⟩ := h₁
  have hS : (s.heap.push { cls := .type "list", data := .seq #[] }).get? s.heap.objs.size = some { cls := .type "list", data := .seq #[] } := Heap.get?_push_size _ rfl
  refine ⟨⟨_, hS, rfl⟩, PySem.F.args_list_init_2 _ _, ?_⟩
  have l1 : e < s.heap.objs.size := Heap.lt_size he0
  have l2 : it < s.heap.objs.size := by obtain ⟨_, x, _⟩ := hit; exact Heap.lt_size x
  have l3 : l < s.heap.objs.size := by obtain ⟨_, x, _⟩ := tp; exact Heap.lt_size x
  show wpAny _ _ (do let old ← Builtin.List.listItems (.ref s.heap.objs.size); Builtin.List.listUpdate (.ref s.heap.objs.size) (fun _ => #[]); letGo old.toList.reverse; Builtin.List.listExtendWith (.ref s.heap.objs.size) (.ref e) .none) _ _ _
  refine wpAny_bind ?_
  unfold Builtin.List.listItems
  refine wpAny_bind (wpAny_seqItems hS rfl (wpAny_pure ?_))
  show wpAny _ _ (updateSeq s.heap.objs.size (fun _ => #[]) >>= fun _ => letGo (#[] : Array Value).toList.reverse >>= fun _ => Builtin.List.listExtendWith (.ref s.heap.objs.size) (.ref e) .none) _ _ _
  refine wpAny_bind (wpAny_updateSeq hS rfl ?_)
  have hS₂ := Heap.get?_update_self (Obj.mapSeq (fun _ => (#[] : Array Value))) hS rfl
  have oth : ∀ b o, b ≠ s.heap.objs.size → s.heap.get? b = some o → ((s.heap.push { cls := .type "list", data := .seq #[] }).update s.heap.objs.size (Obj.mapSeq (fun _ => (#[] : Array Value)))).get? b = some o :=
    fun b o hb q => (Heap.get?_update_other _ _ (Ne.symm hb)).trans (Heap.get?_push_of_some _ q)
  refine wpAny_bind (wpAny_letGo ?_)
  have ne1 : e ≠ s.heap.objs.size := Nat.ne_of_lt l1
  have ne2 : it ≠ s.heap.objs.size := Nat.ne_of_lt l2
  have ne3 : l ≠ s.heap.objs.size := Nat.ne_of_lt l3
  refine en_extend (A := A.in1) (s := { s with heap := (s.heap.push { cls := .type "list", data := .seq #[] }).update s.heap.objs.size (Obj.mapSeq (fun _ => (#[] : Array Value))) }) hh ei le li ne1 ne2 ne3 hn .none (lo := s.heap.objs.size) (Nat.le_refl _) (Nat.le_of_lt l1) (Nat.le_of_lt l2)
    (by show s.heap.objs.size < ((s.heap.push { cls := .type "list", data := .seq #[] }).update s.heap.objs.size _).objs.size; rw [Heap.size_update, Heap.size_push]; exact Nat.lt_succ_self _) ⟨⟨hit.at fun o q => oth _ _ ne2 q, tp.at fun o q => oth _ _ ne3 q⟩, .inl ⟨old0, oth _ _ ne1 he0⟩⟩ (oth _ _ ne1 he0) hS₂ ?_
  intro h' tk acc c as hk hS' hl hG hacc
  exact ⟨rfl, hQ h' tk acc c as (fun b o h1 h2 q => hk b o (Nat.ne_of_lt (Heap.lt_size q)) h1 h2 (oth b o (Nat.ne_of_lt (Heap.lt_size q)) q)) hS' hl hG hacc⟩
end
theorem items_laidS {X : Cx} {pins : List (Addr × Obj)} {σ : L2.St} {H : Hp} {s : Shared} {h' : Heap} {tk : Nat} {kvs : List (Key × V)} {vs : List (Key × Value)} {acc : Array Value} {c : Nat} {as : List Addr} {S : Addr} (I : Inv X pins σ H s) (hz : kvs.length ≤ sizeLine) (kv : KV kvs vs) (geS : s.heap.objs.size ≤ S)
    (hk : ∀ b o, s.heap.get? b = some o → h'.get? b = some o) (hS : h'.get? S = some { cls := .type "list", dict := none, data := .seq acc c, slots := #[] }) (hl : as.length = vs.length) (hG : PySem.W.KdxG (mixKind X.prog X.w) vs S h' as) (hacc : acc.toList = as.map Value.ref) :
    ∃ H' : Hp, (∀ b o, H b = some o → H' b = some o) ∧ H S = none ∧ (∀ t ∈ as, H t = none) ∧ S ∉ as ∧ H' S = some (.lst (as.map V.ref)) ∧ Paired (fun (t : Addr) (q : Key × V) => H' t = some (.tup [kV q.1, q.2])) as kvs ∧ Inv X pins σ H' { s with heap := h', toks := tk } := by
  have lk : kvs.length = vs.length := Paired.length kv
  have hSn : S ∉ as := fun z => Nat.lt_irrefl _ (hG.above _ z)
  have nd : as.Nodup := List.Pairwise.imp (fun {a b} (h : a < b) => Nat.ne_of_lt h) hG.rise
  have new : ∀ t ∈ as, H t = none := fun t ht => I.hok.fresh (Nat.le_trans geS (Nat.le_of_lt (hG.above t ht)))
  have newS : H S = none := I.hok.fresh geS
  have atP := LiI.putT_at as kvs (upd H S (.lst (as.map V.ref))) (by omega) nd
  have off : ∀ b, b ∉ as → b ≠ S → LiI.putT (upd H S (.lst (as.map V.ref))) as kvs b = H b := fun b h1 h2 => by rw [LiI.putT_off as kvs _ h1, upd_ne h2]
  have low : ∀ b o, s.heap.get? b = some o → b ∉ as ∧ b ≠ S := fun b o e => ⟨fun z => absurd (Heap.lt_size e) (Nat.not_lt.mpr (Nat.le_trans geS (Nat.le_of_lt (hG.above b z)))), Nat.ne_of_lt (Nat.lt_of_lt_of_le (Heap.lt_size e) geS)⟩
  have kp : ∀ b u, H b = some u → (LiI.putT (upd H S (.lst (as.map V.ref))) as kvs) b = some u := fun b u e => by
    rw [off b (fun z => by rw [new b z] at e; cases e) (fun z => by rw [z, newS] at e; cases e)]
    exact e
  have eS : LiI.putT (upd H S (.lst (as.map V.ref))) as kvs S = some (.lst (as.map V.ref)) := by rw [LiI.putT_off as kvs _ hSn, upd_same]
  refine ⟨LiI.putT (upd H S (.lst (as.map V.ref))) as kvs, kp, newS, new, hSn, eS, atP, ?_⟩
  refine I.call' (ch := []) rfl ⟨fun b o q _ _ _ => hk b o q, fun b o q _ _ _ => ⟨o.slots, hk b o q⟩, fun b o q n _ => ?_, fun b o q _ => ⟨o, hk b o q⟩, fun b xs q => kp b _ q, fun b o u q => kp b _ q, fun b ps q => ⟨#[], by rw [kp b _ q]; simp⟩⟩ (fun b u q => ?_) I.bare fun b z => by simp at z
  · obtain ⟨z1, z2⟩ := low b o q
    rw [off b z1 z2]
    exact n
  · by_cases hb : b ∈ as
    · obtain ⟨j, pk, e1, e2, e3⟩ := LiI.paired_ix atP hb
      rw [e3] at q
      cases q
      obtain ⟨key, k, x, f1, f2, f3⟩ := hG.pairs j b e1
      obtain ⟨qv, g1, g2, g3⟩ := LiI.paired_get kv e2
      rw [f1] at g1
      cases g1
      have rk : RelV (kV pk.1) key := by
        rw [g2]
        exact relV_key (show keyIs k key = true from f2)
      exact ⟨by show 2 ≤ sizeLine; decide, [key, x], .cons rk (.cons g3 .nil), ⟨_, f3, rfl, _, rfl⟩⟩
    · by_cases hb2 : b = S
      · rw [hb2] at q ⊢
        rw [eS] at q
        cases q
        refine ⟨by rw [List.length_map]; omega, acc.toList, c, by rw [hacc]; exact LiI.vals_refs as, ?_⟩
        rw [Array.toArray_toList]
        exact hS
      · rw [off b hb hb2] at q
        exact (I.hok b u q).stay (fun d v _ y => hk d v y) (fun d y => kp d _ y) fun d xs y => kp d _ y
def tListEnum (K : PySem.W.Frag) (ta : TA) : TE := fun σ H Q => ta σ H fun vs H1 => ∃ (a : Addr) (xs : List V), vs = [.ref a] ∧ SqT K H1 a xs ∧
  ∀ (H' : Hp) (p : Addr) (ts : List Addr), Same H1 H' → H1 p = none → (∀ t ∈ ts, H1 t = none) → H' p = some (.lst (ts.map V.ref)) → Paired (fun (t : Addr) (q : Key × V) => H' t = some (.tup [kV q.1, q.2])) ts (enL 0 xs) → Q (.ref p) H'
section
variable {K : PySem.W.Frag} {T : List (Addr × Str)} {X : Cx}
theorem pe_listEnum {e : Expr} {ta : TA} {p p2 pos pos2 : Pos} (hc : X.calm = true) (hg : Gl X "list") (hm : X.mg "list" = none) (hb : bootBuiltins "list" = some (.type "list")) (hg2 : Gl X "enumerate") (hm2 : X.mg "enumerate" = none) (ha : PA X [e] ta)
    (n2 : starEach [e] X.env = [(false, eval e X.env)] := by rfl)
    (na : starEach [.Call (.Name "enumerate" p2) [e] [] pos2] X.env = (false, eval (.Call (.Name "enumerate" p2) [e] [] pos2) X.env) :: starEach [] X.env := by rfl) :
    PE X (.Call (.Name "list" p) [.Call (.Name "enumerate" p2) [e] [] pos2] [] pos) (tListEnum X.K ta) := by
  refine ⟨fun pins s σ H Q I h => ?_⟩
  refine Call_ (ld_blt I hg hm hb (PyProof.Rows.callWith_type1 (args_cons ?_ na) na))
  refine Call_ (ld_blt I hg2 hm2 boot_enumerate (PyProof.Rows.callWith_type1 (thn (ha.run pos2 pins s σ H _ I h) ?_) n2 rfl))
  rintro us s1 ⟨vs, H1, I1, r1, a, xs, rfl, ht, q⟩
  obtain ⟨u, rfl, rx⟩ := Vals.one r1
  cases rx
  obtain ⟨its, rv, tp, hz⟩ := I1.tuple ht
  have la : a < s1.heap.objs.size := tp.lt
  refine call_enumT tp fun h1 he hit k1 => args_nil ?_
  have tp1 : h1.IsTuple a its.toArray := tp.keeps k1
  have ge1 : s1.heap.objs.size ≤ h1.objs.size := Nat.le_of_lt (Nat.lt_trans (Nat.lt_succ_self _) (Heap.lt_size he))
  refine en_call (P := X.prog) (w := X.w) (s := { s1 with heap := h1 }) (I1.ok.hd hc) (Nat.succ_ne_self _) (Nat.ne_of_lt (Nat.lt_succ_of_lt la)) (Nat.ne_of_lt la) (by rw [List.size_toArray, ← rv.length]; exact hz) he hit tp1 fun h2 tk acc c as hk hS hl hG hacc => ?_
  obtain ⟨H', k1', k2, k3, k4, k5, k6, J⟩ := items_laidS (tk := tk) (S := h1.objs.size) I1 (by rw [enL_len]; exact hz) (enL_kv 0 rv) ge1 (fun b o q => by
    have lb : b < s1.heap.objs.size := Heap.lt_size q
    exact hk b o (Nat.ne_of_lt (Nat.lt_succ_of_lt lb)) (Nat.ne_of_lt lb) (k1 b o q)) hS (by rw [enL_len, hl, List.size_toArray]) hG hacc
  exact ⟨.ref _, H', J, rfl, q H' _ as k1' k2 k3 k5 k6⟩
def enD : Nat → List PyData → List PyData
  | _, [] => []
  | i, x :: xs => .tuple [.int (i : Int), x] :: enD (i + 1) xs
theorem enD_v {ms : Ms} {H : Hp} : ∀ {vs : List V} {ds : List PyData} {ts : List Addr} (i : Nat), DmAll K ms H vs ds → Paired (fun (t : Addr) (q : Key × V) => H t = some (.tup [kV q.1, q.2])) ts (enL i vs) → (∀ t ∈ ts, t ∉ ms) → DmAll K ms H (ts.map V.ref) (enD i ds)
  | _, _, ts, i, .nil, p, n => by
    cases p
    exact .nil
  | v :: vs, d :: ds, ts, i, .cons h t, p, n => by
    cases p with
    | cons p1 p2 =>
      rw [List.map_cons]
      exact .cons (.tup (.inr ⟨rfl, p1, n _ List.mem_cons_self⟩) (.cons (.int _) (.cons h .nil))) (enD_v (i + 1) t p2 fun t ht => n t (List.mem_cons_of_mem _ ht))
def fListEnum (f : Fa) : Fx := fun sd M => (f sd M).bind fun ws M1 => match ws with
  | [.d (.tuple ds)] => .ok (.d (.list (enD 0 ds))) M1
  | _ => .bad
theorem fe_listEnum (K : PySem.W.Frag) {e : Expr} {f : Fa} {p p2 pos pos2 : Pos} (hc : X.calm = true) (hg : Gl X "list") (hm : X.mg "list" = none) (hb : bootBuiltins "list" = some (.type "list")) (hg2 : Gl X "enumerate") (hm2 : X.mg "enumerate" = none) (ha : PA X [e] (tA K T f))
    (n2 : starEach [e] X.env = [(false, eval e X.env)] := by rfl)
    (na : starEach [.Call (.Name "enumerate" p2) [e] [] pos2] X.env = (false, eval (.Call (.Name "enumerate" p2) [e] [] pos2) X.env) :: starEach [] X.env := by rfl) (hk : X.K = K := by rfl) :
    PE X (.Call (.Name "list" p) [.Call (.Name "enumerate" p2) [e] [] pos2] [] pos) (tF K T (fListEnum f)) := by
  subst hk
  exact (pe_listEnum hc hg hm hb hg2 hm2 ha n2 na).weak fun σ H Q ⟨ms, sd, M, R, S, h⟩ => tA_use R S h fun ws M1 m1 H1 vs h1 e1 R1 S1 r1 => by
    split at h1
    · cases r1 with
      | cons r t =>
        cases t
        obtain ⟨a, xs, rfl, g1, g2⟩ := Dm.tupE r
        refine ⟨a, xs, rfl, g1.sq, fun H' p ts sm hp hts hL hP => ?_⟩
        have e2 : Ext m1 m1 H1 H' := .same sm
        exact h1 m1 H' (.ref p) e2 (R1.same sm) (show Dm X.K m1 H' _ _ from .lst ⟨hL, R1.fresh hp⟩ (enD_v 0 (g2.keep e2.keep) hP fun t ht => R1.fresh (hts t ht)))
    · exact h1.elim
end
end Fu

set_option Elab.async false
set_option linter.all false
set_option maxRecDepth 100000
set_option maxHeartbeats 4000000
/-! The functional reading, XIV: short names. -/
namespace Fu
open PySem PySem.Spec PyProof.Rows L2 Dat LamX RZ
section
variable {K : PySem.W.Frag} {T : List (Addr × Str)} {X : Cx} {pos : Pos}
theorem fv (i : Nat) {x : Str} (hN : X.N[i]? = some x := by rfl) (hv : Vis X.env.scope x := by first | exact Or.inl rfl | exact Or.inr (Or.inl rfl) | exact Or.inr (Or.inr rfl)) (hd : (x == ("__debug__" : Str)) = false := by decide) (hcd : (x == ("__classdict__" : Str)) = false := by decide) :
    PE X (.Name x pos) (tF K T (fPv i)) := fe_pv hN hv hd hcd
def fNeg (f : Fx) : Fx := fun sd M => (f sd M).bind fun w M1 => match w with
  | .d (.int i) => .ok (.d (.int (-i))) M1
  | _ => .bad
theorem fe_neg {a : Expr} {f : Fx} (ha : PE X a (tF K T f)) : PE X (.UnaryOp .USub a pos) (tF K T (fNeg f)) := (pe_un un_neg ha).weak fun σ H Q ⟨ms, sd, M, R, S, h⟩ => tF_use R S h fun w M1 m1 H1 v h1 e1 R1 S1 r1 => by
  split at h1
  · cases r1
    exact ⟨_, rfl, h1.here R1 (show Dm K m1 H1 _ _ from .int _)⟩
  · exact h1.elim
theorem fe_one {op} {a : Expr} {f : Fx} (h : PE X a (tF K T f)) : PE X (.BoolOp op [a] pos) (tF K T f) := pe_one h
theorem fw_and1 {a : Expr} {t : Ft} (h : PT X a (tT K T t)) : PW X (.BoolOp .And [a] pos) (tT K T t) := pw_and1 h
theorem fw_or1 {a : Expr} {t : Ft} (h : PT X a (tT K T t)) : PW X (.BoolOp .Or [a] pos) (tT K T t) := pw_or1 h
theorem fe_notV {a : Expr} {f : Fx} (h : PE X a (tF K T f)) : PE X (.UnaryOp .Not a pos) (tF K T (fNotV (fTest f))) := (pe_not h).weak fun σ H Q ⟨ms, sd, M, R, S, h⟩ => by
  unfold fNotV fTest at h
  refine tF_use (k := fun w M1 => (match w with | .d (.bool b) => Res.ok b M1 | _ => .bad).bind fun b M2 => .ok (.d (.bool !b)) M2) (rep := RepW K) (P := Q) R S ?_ ?_
  · have a : ∀ (α β γ : Type) (r : Res α) (k : α → Sto → Res β) (l : β → Sto → Res γ), (r.bind k).bind l = r.bind fun a M => (k a M).bind l := fun α β γ r k l => by cases r <;> rfl
    rw [← a]
    exact h
  · intro w M1 m1 H1 v h1 e1 R1 S1 r1
    cases w with
    | d x =>
      cases x with
      | bool b =>
        cases r1
        exact ⟨b, rfl, h1.here R1 (show Dm K m1 H1 _ _ from .bl _)⟩
      | _ => exact h1.elim
    | _ => exact h1.elim
/-- a op1 b op2 c -/
def fChain (o o' : Fo) (f g k : Fx) : Ft := fun sd M => (f sd M).bind fun x M1 => (g sd M1).bind fun y M2 => (o x y M2).bind fun z M3 => match z with
  | .d (.bool true) => (k sd M3).bind fun u M4 => (o' y u M4).bind fun r M5 => match r with
    | .d (.bool b) => .ok b M5
    | _ => .bad
  | .d (.bool false) => .ok false M3
  | _ => .bad
end
section
variable {K : PySem.W.Frag} {T : List (Addr × Str)} {X : Cx}
def fTupRg (f : Fx) : Fx := fun sd M => (f sd M).bind fun w M1 => match w with
  | .d (.int n) => if -(2 ^ 62) ≤ n ∧ n ≤ 1000000 then .ok (.d (.tuple ((List.range n.toNat).map fun i => PyData.int (i : Nat)))) M1 else .bad
  | _ => .bad
theorem rg_dm {ms : Ms} {H : Hp} (n : Int) : DmAll K ms H (rgV 0 n) ((List.range n.toNat).map fun i => PyData.int (i : Nat)) := by
  unfold rgV
  rw [show n - 0 = n by omega]
  generalize List.range n.toNat = l
  induction l with
  | nil => exact .nil
  | cons i l ih =>
    rw [List.map_cons, List.map_cons]
    refine .cons ?_ ih
    rw [show (0 : Int) + (i : Nat) = (i : Nat) by omega]
    exact .int _
theorem fe_tupRg {f : Fx} {e : Expr} {p p2 pos pos2 : Pos} (hc : X.calm = true) (hg : Gl X "tuple") (hm : X.mg "tuple" = none) (hg2 : Gl X "range") (hm2 : X.mg "range" = none) (he : PE X e (tF K T f)) (na2 : starEach [e] X.env = (false, eval e X.env) :: starEach [] X.env := by rfl)
    (na : starEach [.Call (.Name "range" p2) [e] [] pos2] X.env = (false, eval (.Call (.Name "range" p2) [e] [] pos2) X.env) :: starEach [] X.env := by rfl) :
    PE X (.Call (.Name "tuple" p) [.Call (.Name "range" p2) [e] [] pos2] [] pos) (tF K T (fTupRg f)) := by
  refine ⟨fun pins s σ H Q I ⟨ms, sd, M, R, S, h⟩ => ?_⟩
  refine Call_ (ld_blt I hg hm boot_tuple (PyProof.Rows.callWith_type1 (args_cons (thn (prg_1 (pos := pos2) hg2 hm2 he na2 pins s σ H (fun a b H1 => a = 0 ∧ ∃ m1 M1, RelM K T m1 M1 H1 ∧ Ext ms m1 H H1 ∧ (-(2 ^ 62) ≤ b ∧ b ≤ 1000000) ∧ Wp K T m1 H1 (RepW K) (.ok (.d (.tuple ((List.range b.toNat).map fun i => PyData.int (i : Nat)))) M1) Q) I ?_) fun x s1 ⟨r, a, b, t, u, v, H1, ex, hr, I1, ok⟩ => args_nil ?_) na) na))
  · refine tF_use R S h fun w M1 m1 H1 v h1 e1 R1 S1 r1 => ?_
    split at h1
    · split at h1
      · rename_i n hn
        cases r1
        exact ⟨_, rfl, rfl, m1, M1, R1, e1, hn, h1⟩
      · exact h1.elim
    · exact h1.elim
  · subst ex
    obtain ⟨rfl, m1, M1, R1, e1, hb, q⟩ := ok
    refine call_tuple_range (n := (b - 0).toNat) (I1.ok.hd hc) hr (small_one (by omega) (by omega) (by omega) (by omega)) (rangeSize_nat 0 b) (by omega) fun h' tk acc hk hi => ?_
    have I2 : Inv X pins σ H1 { s1 with heap := h', toks := tk } := I1.kept hk
    have rv := vals_rg hi
    have lz : (rgV 0 b).length ≤ sizeLine := by rw [rgV_length, sizeLine_eq]; omega
    have I3 := laidT I2 rv lz
    rw [Array.toArray_toList] at I3
    exact ⟨.ref h'.objs.size, _, I3, rfl, q m1 _ _ (.new I2.fresh) (R1.new I2.fresh) (dm_newT (rg_dm b) I2.fresh (R1.fresh I2.fresh) rfl)⟩
end
/-! the rules' names by what stands in the text -/
section
variable {X : Cx} (K : PySem.W.Frag) {T : List (Addr × Str)} {pos : Pos} {a b : Expr} {f g : Fx}
theorem x_add (ha : PE X a (tF K T f)) (hb : PE X b (tF K T g)) : PE X (.BinOp a .Add b pos) (tF K T (fOp oAdd f g)) := fe_op op_add k2_add ha hb
theorem x_sub (ha : PE X a (tF K T f)) (hb : PE X b (tF K T g)) : PE X (.BinOp a .Sub b pos) (tF K T (fOp oSub f g)) := fe_op op_sub k2_sub ha hb
theorem x_mul (ha : PE X a (tF K T f)) (hb : PE X b (tF K T g)) : PE X (.BinOp a .Mult b pos) (tF K T (fOp oMul f g)) := fe_op op_mul k2_mul ha hb
theorem x_mod (ha : PE X a (tF K T f)) (hb : PE X b (tF K T g)) : PE X (.BinOp a .Mod b pos) (tF K T (fOp oMod f g)) := fe_op op_mod k2_mod ha hb
theorem x_fdiv (ha : PE X a (tF K T f)) (hb : PE X b (tF K T g)) : PE X (.BinOp a .FloorDiv b pos) (tF K T (fOp oFdiv f g)) := fe_op op_fdiv k2_fdiv ha hb
theorem x_pow (ha : PE X a (tF K T f)) (hb : PE X b (tF K T g)) : PE X (.BinOp a .Pow b pos) (tF K T (fOp oPow f g)) := fe_op op_pow k2_pow ha hb
theorem x_addS (ha : PE X a (tF K T f)) (hb : PE X b (tF K T g)) : PE X (.BinOp a .Add b pos) (tF K T (fOp oAddS f g)) := fe_op op_add_str k2_addS ha hb
theorem x_catT (ha : PE X a (tF K T f)) (hb : PE X b (tF K T g)) (hk : X.K = K := by rfl) : PE X (.BinOp a .Add b pos) (tF K T (fOp oCatT f g)) := fe_op (k_catF K hk) k2_catT ha hb
theorem x_catL (ha : PE X a (tF K T f)) (hb : PE X b (tF K T g)) : PE X (.BinOp a .Add b pos) (tF K T (fOp oCatL f g)) := fe_op op_cat k2_catL ha hb
theorem x_mulT (ha : PE X a (tF K T f)) (hb : PE X b (tF K T g)) (hk : X.K = K := by rfl) : PE X (.BinOp a .Mult b pos) (tF K T (fOp oMulT f g)) := fe_op (k_repF K hk) k2_mulT ha hb
theorem x_lt (ha : PE X a (tF K T f)) (hb : PE X b (tF K T g)) (hm : behindInMarks .Lt b = false := by exact nomark _) : PE X (.Compare a [.Lt] [b] pos) (tF K T (fOp oLt f g)) := fe_cmp op_lt k2_lt ha hb hm
theorem x_le (ha : PE X a (tF K T f)) (hb : PE X b (tF K T g)) (hm : behindInMarks .LtE b = false := by exact nomark _) : PE X (.Compare a [.LtE] [b] pos) (tF K T (fOp oLe f g)) := fe_cmp op_le k2_le ha hb hm
theorem x_gt (ha : PE X a (tF K T f)) (hb : PE X b (tF K T g)) (hm : behindInMarks .Gt b = false := by exact nomark _) : PE X (.Compare a [.Gt] [b] pos) (tF K T (fOp oGt f g)) := fe_cmp op_gt k2_gt ha hb hm
theorem x_ge (ha : PE X a (tF K T f)) (hb : PE X b (tF K T g)) (hm : behindInMarks .GtE b = false := by exact nomark _) : PE X (.Compare a [.GtE] [b] pos) (tF K T (fOp oGe f g)) := fe_cmp op_ge k2_ge ha hb hm
theorem x_eqS (ha : PE X a (tF K T f)) (hb : PE X b (tF K T g)) (hm : behindInMarks .Eq b = false := by exact nomark _) : PE X (.Compare a [.Eq] [b] pos) (tF K T (fOp (oEqS false) f g)) := fe_cmp op_eq k2_eqS ha hb hm
theorem x_neS (ha : PE X a (tF K T f)) (hb : PE X b (tF K T g)) (hm : behindInMarks .NotEq b = false := by exact nomark _) : PE X (.Compare a [.NotEq] [b] pos) (tF K T (fOp (oEqS true) f g)) := fe_cmp op_ne k2_neS ha hb hm
theorem x_eqD (hu : X.A.units + 64 < cLine) (ha : PE X a (tF K T f)) (hb : PE X b (tF K T g)) (hm : behindInMarks .Eq b = false := by exact nomark _) (hk : X.K = K := by rfl) : PE X (.Compare a [.Eq] [b] pos) (tF K T (fOp (oEqD false) f g)) := fe_cmp (k_eqD K hu hk) k2_eqD ha hb hm
theorem x_neD (hu : X.A.units + 64 < cLine) (ha : PE X a (tF K T f)) (hb : PE X b (tF K T g)) (hm : behindInMarks .NotEq b = false := by exact nomark _) (hk : X.K = K := by rfl) : PE X (.Compare a [.NotEq] [b] pos) (tF K T (fOp (oEqD true) f g)) := fe_cmp (k_neD K hu hk) k2_neD ha hb hm
theorem x_in (ha : PE X a (tF K T f)) (hb : PE X b (tF K T g)) (hm : behindInMarks .In b = false := by with_unfolding_all rfl) (hk : X.K = K := by rfl) : PE X (.Compare a [.In] [b] pos) (tF K T (fOp (oIn false) f g)) := fe_cmp (k_inSeq K hk) (k2_in false) ha hb hm
theorem x_notin (ha : PE X a (tF K T f)) (hb : PE X b (tF K T g)) (hm : behindInMarks .NotIn b = false := by with_unfolding_all rfl) (hk : X.K = K := by rfl) : PE X (.Compare a [.NotIn] [b] pos) (tF K T (fOp (oIn true) f g)) := fe_cmp (k_notInSeq K hk) (k2_in true) ha hb hm
theorem x_isN (ha : PE X a (tF K T f)) (hb : PE X b (tF K T g)) (hm : behindInMarks .Is b = false := by exact nomark _) : PE X (.Compare a [.Is] [b] pos) (tF K T (fOp (oIs false) f g)) := fe_cmp op_isN k2_isN ha hb hm
theorem x_notN (ha : PE X a (tF K T f)) (hb : PE X b (tF K T g)) (hm : behindInMarks .IsNot b = false := by exact nomark _) : PE X (.Compare a [.IsNot] [b] pos) (tF K T (fOp (oIs true) f g)) := fe_cmp op_notN k2_notN ha hb hm
theorem x_din (hu : X.A.units + 1 < cLine) (ha : PE X a (tF K T f)) (hb : PE X b (tF K T g)) (hm : behindInMarks .In b = false := by with_unfolding_all rfl) : PE X (.Compare a [.In] [b] pos) (tF K T (fOp (oDIn false) f g)) := fe_pc (fc_din hu ha hb) hm
theorem x_dnotin (hu : X.A.units + 1 < cLine) (ha : PE X a (tF K T f)) (hb : PE X b (tF K T g)) (hm : behindInMarks .NotIn b = false := by with_unfolding_all rfl) : PE X (.Compare a [.NotIn] [b] pos) (tF K T (fOp (oDIn true) f g)) := fe_pc (fc_dnotin hu ha hb) hm
theorem t_eqS (ha : PE X a (tF K T f)) (hb : PE X b (tF K T g)) (hm : behindInMarks .Eq b = false := by exact nomark _) : PT X (.Compare a [.Eq] [b] pos) (tT K T (fTest (fOp (oEqS false) f g))) := ft_cmp op_eq k2_eqS ha hb hm
theorem t_neS (ha : PE X a (tF K T f)) (hb : PE X b (tF K T g)) (hm : behindInMarks .NotEq b = false := by exact nomark _) : PT X (.Compare a [.NotEq] [b] pos) (tT K T (fTest (fOp (oEqS true) f g))) := ft_cmp op_ne k2_neS ha hb hm
theorem t_eqD (hu : X.A.units + 64 < cLine) (ha : PE X a (tF K T f)) (hb : PE X b (tF K T g)) (hm : behindInMarks .Eq b = false := by exact nomark _) (hk : X.K = K := by rfl) : PT X (.Compare a [.Eq] [b] pos) (tT K T (fTest (fOp (oEqD false) f g))) := ft_cmp (k_eqD K hu hk) k2_eqD ha hb hm
theorem t_neD (hu : X.A.units + 64 < cLine) (ha : PE X a (tF K T f)) (hb : PE X b (tF K T g)) (hm : behindInMarks .NotEq b = false := by exact nomark _) (hk : X.K = K := by rfl) : PT X (.Compare a [.NotEq] [b] pos) (tT K T (fTest (fOp (oEqD true) f g))) := ft_cmp (k_neD K hu hk) k2_neD ha hb hm
theorem t_lt (ha : PE X a (tF K T f)) (hb : PE X b (tF K T g)) (hm : behindInMarks .Lt b = false := by exact nomark _) : PT X (.Compare a [.Lt] [b] pos) (tT K T (fTest (fOp oLt f g))) := ft_cmp op_lt k2_lt ha hb hm
theorem t_le (ha : PE X a (tF K T f)) (hb : PE X b (tF K T g)) (hm : behindInMarks .LtE b = false := by exact nomark _) : PT X (.Compare a [.LtE] [b] pos) (tT K T (fTest (fOp oLe f g))) := ft_cmp op_le k2_le ha hb hm
theorem t_gt (ha : PE X a (tF K T f)) (hb : PE X b (tF K T g)) (hm : behindInMarks .Gt b = false := by exact nomark _) : PT X (.Compare a [.Gt] [b] pos) (tT K T (fTest (fOp oGt f g))) := ft_cmp op_gt k2_gt ha hb hm
theorem t_ge (ha : PE X a (tF K T f)) (hb : PE X b (tF K T g)) (hm : behindInMarks .GtE b = false := by exact nomark _) : PT X (.Compare a [.GtE] [b] pos) (tT K T (fTest (fOp oGe f g))) := ft_cmp op_ge k2_ge ha hb hm
theorem t_in (ha : PE X a (tF K T f)) (hb : PE X b (tF K T g)) (hm : behindInMarks .In b = false := by with_unfolding_all rfl) (hk : X.K = K := by rfl) : PT X (.Compare a [.In] [b] pos) (tT K T (fTest (fOp (oIn false) f g))) := ft_cmp (k_inSeq K hk) (k2_in false) ha hb hm
theorem t_notin (ha : PE X a (tF K T f)) (hb : PE X b (tF K T g)) (hm : behindInMarks .NotIn b = false := by with_unfolding_all rfl) (hk : X.K = K := by rfl) : PT X (.Compare a [.NotIn] [b] pos) (tT K T (fTest (fOp (oIn true) f g))) := ft_cmp (k_notInSeq K hk) (k2_in true) ha hb hm
theorem t_isN (ha : PE X a (tF K T f)) (hb : PE X b (tF K T g)) (hm : behindInMarks .Is b = false := by exact nomark _) : PT X (.Compare a [.Is] [b] pos) (tT K T (fTest (fOp (oIs false) f g))) := ft_cmp op_isN k2_isN ha hb hm
theorem t_notN (ha : PE X a (tF K T f)) (hb : PE X b (tF K T g)) (hm : behindInMarks .IsNot b = false := by exact nomark _) : PT X (.Compare a [.IsNot] [b] pos) (tT K T (fTest (fOp (oIs true) f g))) := ft_cmp op_notN k2_notN ha hb hm
theorem t_din (hu : X.A.units + 1 < cLine) (ha : PE X a (tF K T f)) (hb : PE X b (tF K T g)) (hm : behindInMarks .In b = false := by with_unfolding_all rfl) : PT X (.Compare a [.In] [b] pos) (tT K T (fTest (fOp (oDIn false) f g))) := ft_pc (fc_din hu ha hb) hm
theorem t_dnotin (hu : X.A.units + 1 < cLine) (ha : PE X a (tF K T f)) (hb : PE X b (tF K T g)) (hm : behindInMarks .NotIn b = false := by with_unfolding_all rfl) : PT X (.Compare a [.NotIn] [b] pos) (tT K T (fTest (fOp (oDIn true) f g))) := ft_pc (fc_dnotin hu ha hb) hm
theorem x_ixT (ha : PE X a (tF K T f)) (hb : PE X b (tF K T g)) (hs : PlainIx b := by exact fun _ _ => rfl) (hk : X.K = K := by rfl) : PE X (.Subscript a b pos) (tF K T (fOp oIxT f g)) := fe_ix (k_ixT K hk) k2_ixT ha hb hs
theorem x_ixL (ha : PE X a (tF K T f)) (hb : PE X b (tF K T g)) (hs : PlainIx b := by exact fun _ _ => rfl) (hk : X.K = K := by rfl) : PE X (.Subscript a b pos) (tF K T (fOp oIxL f g)) := fe_ix (k_ixL K hk) k2_ixL ha hb hs
theorem x_ixS (ha : PE X a (tF K T f)) (hb : PE X b (tF K T g)) (hs : PlainIx b := by exact fun _ _ => rfl) : PE X (.Subscript a b pos) (tF K T (fOp oIxS f g)) := fe_ix ix_str k2_ixS ha hb hs
theorem x_dget (hu : X.A.units + 1 < cLine) (ha : PE X a (tF K T f)) (hb : PE X b (tF K T g)) (hs : NoSl b := by exact fun _ _ => rfl) : PE X (.Subscript a b pos) (tF K T (fOp oDGet f g)) := fe_dget hu ha hb hs
variable {e : Expr} {es : List Expr} {fa : Fa} {p : Pos}
theorem x_slT {l u : Fp} {lo hi : Option Expr} {p2 : Pos} (he : PE X e (tF K T f)) (hl : PO X lo (tO K T l)) (hu : PO X hi (tO K T u)) (hk : X.K = K := by rfl) : PE X (.Subscript e (.Slice lo hi none p2) pos) (tF K T (fSl oSlT f l u)) := fe_sl (k_slF K hk) k_slT he hl hu
theorem x_slL {l u : Fp} {lo hi : Option Expr} {p2 : Pos} (he : PE X e (tF K T f)) (hl : PO X lo (tO K T l)) (hu : PO X hi (tO K T u)) (hk : X.K = K := by rfl) : PE X (.Subscript e (.Slice lo hi none p2) pos) (tF K T (fSl oSlL f l u)) := fe_sl (k_slL K hk) k_rslL he hl hu
theorem x_len (hg : Gl X "len") (hm : X.mg "len" = none) (hv : bootBuiltins "len" = some (.builtin "len")) (ha : PA X (e :: es) (tA K T fa)) (he : starEach (e :: es) X.env = (false, eval e X.env) :: starEach es X.env := by rfl) (hpl : (backTo pos (starEach es X.env)).any (·.1) = false := by rfl) (hk : X.K = K := by rfl) :
    PE X (.Call (.Name "len" p) (e :: es) [] pos) (tF K T (fCall oLen fa)) := fe_callB (k_len K hk) k_rlen hg hm hv ha (by decide) (by decide) he hpl
theorem x_lenS (hg : Gl X "len") (hm : X.mg "len" = none) (hv : bootBuiltins "len" = some (.builtin "len")) (ha : PA X (e :: es) (tA K T fa)) (he : starEach (e :: es) X.env = (false, eval e X.env) :: starEach es X.env := by rfl) (hpl : (backTo pos (starEach es X.env)).any (·.1) = false := by rfl) :
    PE X (.Call (.Name "len" p) (e :: es) [] pos) (tF K T (fCall oLenS fa)) := fe_callB call_len_str k_rlenS hg hm hv ha (by decide) (by decide) he hpl
theorem x_isinstance (hg : Gl X "isinstance") (hm : X.mg "isinstance" = none) (hv : bootBuiltins "isinstance" = some (.builtin "isinstance")) (ha : PA X (e :: es) (tA K T fa)) (he : starEach (e :: es) X.env = (false, eval e X.env) :: starEach es X.env := by rfl) (hpl : (backTo pos (starEach es X.env)).any (·.1) = false := by rfl) (hk : X.K = K := by rfl) :
    PE X (.Call (.Name "isinstance" p) (e :: es) [] pos) (tF K T (fCall oIsi fa)) := fe_callB (k_isi K hk) k_risi hg hm hv ha (by decide) (by decide) he hpl
theorem x_repr (gd : Gd X.A) (hu : X.A.units + 64 < cLine) (hg : Gl X "repr") (hm : X.mg "repr" = none) (hv : bootBuiltins "repr" = some (.builtin "repr")) (ha : PA X (e :: es) (tA K T fa)) (he : starEach (e :: es) X.env = (false, eval e X.env) :: starEach es X.env := by rfl) (hpl : (backTo pos (starEach es X.env)).any (·.1) = false := by rfl) (hk : X.K = K := by rfl) :
    PE X (.Call (.Name "repr" p) (e :: es) [] pos) (tF K T (fCall oRepr fa)) := fe_callB (k_repr K gd hu hk) k_rrepr hg hm hv ha (by decide) (by decide) he hpl
theorem x_tuple (hg : Gl X "tuple") (hm : X.mg "tuple" = none) (hv : bootBuiltins "tuple" = some (.type "tuple")) (ha : PA X (e :: es) (tA K T fa)) (he : starEach (e :: es) X.env = (false, eval e X.env) :: starEach es X.env := by rfl) (hpl : (backTo pos (starEach es X.env)).any (·.1) = false := by rfl) (hk : X.K = K := by rfl) :
    PE X (.Call (.Name "tuple" p) (e :: es) [] pos) (tF K T (fCall oTuple fa)) := fe_callTy (k_tupleF K hk) k_rtup hg hm hv ha (by decide) (by decide) he hpl
theorem x_list (hg : Gl X "list") (hm : X.mg "list" = none) (hv : bootBuiltins "list" = some (.type "list")) (ha : PA X (e :: es) (tA K T fa)) (he : starEach (e :: es) X.env = (false, eval e X.env) :: starEach es X.env := by rfl) (hpl : (backTo pos (starEach es X.env)).any (·.1) = false := by rfl) (hk : X.K = K := by rfl) :
    PE X (.Call (.Name "list" p) (e :: es) [] pos) (tF K T (fCall oList fa)) := fe_callTy (k_listOf K hk) k_rlist hg hm hv ha (by decide) (by decide) he hpl
theorem x_all (hc : X.calm = true) (hg : Gl X "all") (hm : X.mg "all" = none) (hv : bootBuiltins "all" = some (.builtin "all")) (ha : PA X (e :: es) (tA K T fa)) (he : starEach (e :: es) X.env = (false, eval e X.env) :: starEach es X.env := by rfl) (hpl : (backTo pos (starEach es X.env)).any (·.1) = false := by rfl) (hk : X.K = K := by rfl) :
    PE X (.Call (.Name "all" p) (e :: es) [] pos) (tF K T (fCall (oAll false) fa)) := fe_callB (k_all K hc hk) k_rall hg hm hv ha (by decide) (by decide) he hpl
theorem x_any (hc : X.calm = true) (hg : Gl X "any") (hm : X.mg "any" = none) (hv : bootBuiltins "any" = some (.builtin "any")) (ha : PA X (e :: es) (tA K T fa)) (he : starEach (e :: es) X.env = (false, eval e X.env) :: starEach es X.env := by rfl) (hpl : (backTo pos (starEach es X.env)).any (·.1) = false := by rfl) (hk : X.K = K := by rfl) :
    PE X (.Call (.Name "any" p) (e :: es) [] pos) (tF K T (fCall (oAll true) fa)) := fe_callB (k_any K hc hk) k_rany hg hm hv ha (by decide) (by decide) he hpl
theorem x_min (hc : X.calm = true) (hg : Gl X "min") (hm : X.mg "min" = none) (hv : bootBuiltins "min" = some (.builtin "min")) (ha : PA X (e :: es) (tA K T fa)) (he : starEach (e :: es) X.env = (false, eval e X.env) :: starEach es X.env := by rfl) (hpl : (backTo pos (starEach es X.env)).any (·.1) = false := by rfl) :
    PE X (.Call (.Name "min" p) (e :: es) [] pos) (tF K T (fCall oMin2 fa)) := fe_callB (call_min2 hc) k_rmin2 hg hm hv ha (by decide) (by decide) he hpl
theorem x_dict (hc : X.calm = true) (hg : Gl X "dict") (hm : X.mg "dict" = none) (hv : bootBuiltins "dict" = some (.type "dict")) (ha : PA X (e :: es) (tA K T fa)) (he : starEach (e :: es) X.env = (false, eval e X.env) :: starEach es X.env := by rfl) (hpl : (backTo pos (starEach es X.env)).any (·.1) = false := by rfl) (hk : X.K = K := by rfl) :
    PE X (.Call (.Name "dict" p) (e :: es) [] pos) (tF K T (fCall oDictT fa)) := fe_callTy (k_dictT K hc hk) k_rdict hg hm hv ha (by decide) (by decide) he hpl
theorem x_dict0 : PE X (.Dict [] [] pos) (tF K T fDict0) := fe_dict0 pe_dnewK
variable {o : Expr} {apos cpos : Pos}
theorem x_append (ho : PE X o (tF K T f)) (ha : PA X (e :: es) (tA K T fa)) (hbase : attributeBase o "append" X.env (eval o X.env) = eval o X.env := by rfl)
    (hfew : ((backTo cpos (starEach (e :: es) X.env)).all (fun x => !x.1) && (backToKw cpos (keywordEach [] X.env)).all (fun x => x.1.isSome)
      && decide ((e :: es).length + ([] : List Keyword).length + (if ([] : List Keyword).isEmpty then 0 else 1) < 30)) = true := by rfl)
    (hline : (apos.endLine == cpos.line) = true := by rfl) (hs : starEach (e :: es) X.env = (false, eval e X.env) :: starEach es X.env := by rfl) (hplain : (backTo cpos (starEach es X.env)).any (·.1) = false := by rfl) (hk : X.K = K := by rfl) :
    PE X (.Call (.Attribute o "append" apos) (e :: es) [] cpos) (tF K T (fMethL oAppend f fa)) := (k_bm K PySem.F.plainAttrs_list PySem.F.slot_list_append PySem.F.type_list_append mt_append ho ha hbase hfew hline hs hplain hk).weak (t_methL km_append)
theorem x_extend (ho : PE X o (tF K T f)) (ha : PA X (e :: es) (tA K T fa)) (hbase : attributeBase o "extend" X.env (eval o X.env) = eval o X.env := by rfl)
    (hfew : ((backTo cpos (starEach (e :: es) X.env)).all (fun x => !x.1) && (backToKw cpos (keywordEach [] X.env)).all (fun x => x.1.isSome)
      && decide ((e :: es).length + ([] : List Keyword).length + (if ([] : List Keyword).isEmpty then 0 else 1) < 30)) = true := by rfl)
    (hline : (apos.endLine == cpos.line) = true := by rfl) (hs : starEach (e :: es) X.env = (false, eval e X.env) :: starEach es X.env := by rfl) (hplain : (backTo cpos (starEach es X.env)).any (·.1) = false := by rfl) (hk : X.K = K := by rfl) :
    PE X (.Call (.Attribute o "extend" apos) (e :: es) [] cpos) (tF K T (fMethL oExtend f fa)) := (k_bm K PySem.F.plainAttrs_list PySem.F.slot_list_extend PySem.F.type_list_extend mt_extend ho ha hbase hfew hline hs hplain hk).weak (t_methL km_extend)
theorem x_popAt (ho : PE X o (tF K T f)) (ha : PA X (e :: es) (tA K T fa)) (hbase : attributeBase o "pop" X.env (eval o X.env) = eval o X.env := by rfl)
    (hfew : ((backTo cpos (starEach (e :: es) X.env)).all (fun x => !x.1) && (backToKw cpos (keywordEach [] X.env)).all (fun x => x.1.isSome)
      && decide ((e :: es).length + ([] : List Keyword).length + (if ([] : List Keyword).isEmpty then 0 else 1) < 30)) = true := by rfl)
    (hline : (apos.endLine == cpos.line) = true := by rfl) (hs : starEach (e :: es) X.env = (false, eval e X.env) :: starEach es X.env := by rfl) (hplain : (backTo cpos (starEach es X.env)).any (·.1) = false := by rfl) (hk : X.K = K := by rfl) :
    PE X (.Call (.Attribute o "pop" apos) (e :: es) [] cpos) (tF K T (fMethL oPopAt f fa)) := (k_bm K PySem.F.plainAttrs_list PySem.F.slot_list_pop PySem.F.type_list_pop mt_popAt ho ha hbase hfew hline hs hplain hk).weak (t_methL km_popAt)
end
end Fu

set_option Elab.async false
set_option linter.all false
set_option maxRecDepth 100000
set_option maxHeartbeats 4000000
namespace Fu
open PySem PySem.Spec PyProof.Rows L2 Dat LamX RZ
abbrev lamQ (x : Str) : Str := (x ++ ".<locals>.") ++ "<lambda>"
def topS (i : Nat) : Stmt := PySem.Challenge.pw_pathfolios_k04_found.main.body.getD i (.Pass ⟨0, 0, 0, 0⟩)
theorem b_all : bootBuiltins "all" = some (.builtin "all") := by decide +kernel
theorem b_bool : bootBuiltins "bool" = some (.type "bool") := by decide +kernel
theorem b_dict : bootBuiltins "dict" = some (.type "dict") := by decide +kernel
theorem b_enumerate : bootBuiltins "enumerate" = some (.type "enumerate") := by decide +kernel
theorem b_isinstance : bootBuiltins "isinstance" = some (.builtin "isinstance") := by decide +kernel
theorem b_len : bootBuiltins "len" = some (.builtin "len") := by decide +kernel
theorem b_list : bootBuiltins "list" = some (.type "list") := by decide +kernel
theorem b_min : bootBuiltins "min" = some (.builtin "min") := by decide +kernel
theorem b_range : bootBuiltins "range" = some (.type "range") := by decide +kernel
theorem b_repr : bootBuiltins "repr" = some (.builtin "repr") := by decide +kernel
theorem b_sorted : bootBuiltins "sorted" = some (.builtin "sorted") := by decide +kernel
theorem b_str : bootBuiltins "str" = some (.type "str") := by decide +kernel
theorem b_tuple : bootBuiltins "tuple" = some (.type "tuple") := by decide +kernel
theorem b_zip : bootBuiltins "zip" = some (.type "zip") := by decide +kernel
abbrev s_isrow : Stmt := topS 1
abbrev N_isrow : List Str := ["value"]
abbrev P_isrow : List Str := ["value"]
theorem sc_isrow : FnScope N_isrow P_isrow (defScope s_isrow) := ⟨rfl, rfl, rfl, by decide +kernel, rfl, by decide +kernel, by decide +kernel⟩
noncomputable def B_isrow : Fst := (fRet (fAndV (fCall oIsi (fCons (fPv 0) (fCons (fC (.t "tuple")) fNil))) (fOp (oEqD false) (fOp oIxT (fPv 0) (fC (.d (.int 0)))) (fC (.d (.str "row"))))))
noncomputable def F_isrow : Fn := dropF (fnOf 1 1 (B_isrow))

abbrev s_istree : Stmt := topS 2
abbrev N_istree : List Str := ["value"]
abbrev P_istree : List Str := ["value"]
theorem sc_istree : FnScope N_istree P_istree (defScope s_istree) := ⟨rfl, rfl, rfl, by decide +kernel, rfl, by decide +kernel, by decide +kernel⟩
noncomputable def B_istree : Fst := (fRet (fAndV (fCall oIsi (fCons (fPv 0) (fCons (fC (.t "tuple")) fNil))) (fOp (oEqD false) (fOp oIxT (fPv 0) (fC (.d (.int 0)))) (fC (.d (.str "tree"))))))
noncomputable def F_istree : Fn := dropF (fnOf 1 1 (B_istree))

abbrev s_islike : Stmt := topS 3
abbrev N_islike : List Str := ["one", "other", "part", "match"]
abbrev P_islike : List Str := ["one", "other"]
theorem sc_islike : FnScope N_islike P_islike (defScope s_islike) := ⟨rfl, rfl, rfl, by decide +kernel, rfl, by decide +kernel, by decide +kernel⟩
noncomputable def B_islike (self : Fn) : Fst := (fSeq (fIfS (fAndT (fTest (fCall oIsi (fCons (fPv 0) (fCons (fC (.t "tuple")) fNil)))) (fTest (fCall oIsi (fCons (fPv 1) (fCons (fC (.t "tuple")) fNil)))))
(fSeq (fIfS (fTest (fOp (oEqS true) (fCall oLen (fCons (fPv 0) fNil)) (fCall oLen (fCons (fPv 1) fNil))))
(fRet (fC (.d (.bool false))))
fSkip)
(fRet (fCall (oAll false) (fCons (fLc (fiZ (fCons (fPv 0) (fCons (fPv 1) fNil))) (.tp [(.nm 2), (.nm 3)]) fYes (fCall self (fCons (fPv 2) (fCons (fPv 3) fNil))) [2, 3]) fNil))))
fSkip)
(fRet (fAndV (fOp (oEqS false) (fCall oIsi (fCons (fPv 0) (fCons (fC (.t "bool")) fNil))) (fCall oIsi (fCons (fPv 1) (fCons (fC (.t "bool")) fNil)))) (fOp (oEqD false) (fPv 0) (fPv 1)))))
noncomputable def F_islike : Nat → Fn
  | 0 => fun _ _ => .bad
  | n + 1 => let self := F_islike n
    dropF (fnOf 2 4 (B_islike self))

abbrev s_thingsof : Stmt := topS 5
abbrev N_thingsof : List Str := ["value"]
abbrev P_thingsof : List Str := ["value"]
theorem sc_thingsof : FnScope N_thingsof P_thingsof (defScope s_thingsof) := ⟨rfl, rfl, rfl, by decide +kernel, rfl, by decide +kernel, by decide +kernel⟩
noncomputable def B_thingsof : Fst := (fSeq (fIfS (fTest (fCall F_istree (fCons (fPv 0) fNil)))
(fRet (fCall oDictT (fCons (fOp oIxT (fPv 0) (fC (.d (.int 1)))) fNil)))
fSkip)
(fSeq (fIfS (fTest (fCall F_isrow (fCons (fPv 0) fNil)))
(fRet (fDictEnum (fCons (fOp oIxT (fPv 0) (fC (.d (.int 1)))) fNil)))
fSkip)
(fRet fDict0)))
noncomputable def F_thingsof : Fn := fnOf 1 1 (B_thingsof)

abbrev s_haslike : Stmt := topS 9
abbrev N_haslike : List Str := ["value", "word", "plain", "fields"]
abbrev P_haslike : List Str := ["value", "word", "plain"]
theorem sc_haslike : FnScope N_haslike P_haslike (defScope s_haslike) := ⟨rfl, rfl, rfl, by decide +kernel, rfl, by decide +kernel, by decide +kernel⟩
noncomputable def B_haslike : Fst := (fSeq (fSet 3 (fCall F_thingsof (fCons (fPv 0) fNil)))
(fRet (fAndV (fOp (oDIn false) (fPv 1) (fPv 3)) (fCall (F_islike 15) (fCons (fOp oDGet (fPv 3) (fPv 1)) (fCons (fPv 2) fNil))))))
noncomputable def F_haslike : Fn := dropF (fnOf 3 4 (B_haslike))

abbrev s_comesby : Stmt := topS 8
abbrev N_comesby : List Str := ["value", "step", "word", "things", "number", "thing"]
abbrev P_comesby : List Str := ["value", "step"]
theorem sc_comesby : FnScope N_comesby P_comesby (defScope s_comesby) := ⟨rfl, rfl, rfl, by decide +kernel, rfl, by decide +kernel, by decide +kernel⟩
noncomputable def B_comesby : Fst := (fSeq (fSet 2 (fOp oIxT (fPv 1) (fC (.d (.int 0)))))
(fSeq (fSet 3 (fCall F_thingsof (fCons (fPv 0) fNil)))
(fSeq (fIfS (fOrT (fTest (fOp (oEqD false) (fPv 2) (fC (.d (.str "field"))))) (fTest (fOp (oEqD false) (fPv 2) (fC (.d (.str "at"))))))
(fRet (fIf (fTest (fOp (oDIn false) (fOp oIxT (fPv 1) (fC (.d (.int 1)))) (fPv 3))) (fLst (fCons (fTup (fCons (fOp oIxT (fPv 1) (fC (.d (.int 1)))) (fCons (fOp oDGet (fPv 3) (fOp oIxT (fPv 1) (fC (.d (.int 1))))) fNil))) fNil)) (fLst fNil)))
fSkip)
(fSeq (fIfS (fNotT (fTest (fCall F_isrow (fCons (fPv 0) fNil))))
(fRet (fLst fNil))
fSkip)
(fSeq (fIfS (fTest (fOp (oEqD false) (fPv 2) (fC (.d (.str "each")))))
(fRet (fListItems (fPv 3)))
fSkip)
(fRet (fLock 3 (fLc (fiItems (fPv 3)) (.tp [(.nm 4), (.nm 5)]) (fTest (fCall F_haslike (fCons (fPv 5) (fCons (fOp oIxT (fPv 1) (fC (.d (.int 1)))) (fCons (fOp oIxT (fPv 1) (fC (.d (.int 2)))) fNil))))) (fTup (fCons (fPv 4) (fCons (fPv 5) fNil))) [4, 5]))))))))
noncomputable def F_comesby : Fn := dropF (fnOf 2 6 (B_comesby))

abbrev s_foundin : Stmt := topS 7
abbrev N_foundin : List Str := ["value", "path", "found", "step", "place", "held", "marker", "thing"]
abbrev P_foundin : List Str := ["value", "path"]
theorem sc_foundin : FnScope N_foundin P_foundin (defScope s_foundin) := ⟨rfl, rfl, rfl, by decide +kernel, rfl, by decide +kernel, by decide +kernel⟩
noncomputable def B_foundin_1 : Fst := (fSet 2 (fLc2 (fiL (fPv 2)) (.tp [(.nm 4), (.nm 5)]) fYes (fiL (fCall F_comesby (fCons (fPv 5) (fCons (fPv 3) fNil)))) (.tp [(.nm 6), (.nm 7)]) fYes (fTup (fCons (fOp oCatT (fPv 4) (fTup (fCons (fPv 6) fNil))) (fCons (fPv 7) fNil))) [4, 5, 6, 7] [6, 7]))
noncomputable def B_foundin : Fst := (fSeq (fSet 2 (fLst (fCons (fTup (fCons (fTup fNil) (fCons (fPv 0) fNil))) fNil)))
(fSeq (fFor (fiT (fPv 1)) (.nm 3)
(B_foundin_1))
(fRet (fCall oTuple (fCons (fPv 2) fNil)))))
noncomputable def F_foundin : Fn := dropF (fnOf 2 8 (B_foundin))

abbrev s_valueat : Stmt := topS 10
abbrev N_valueat : List Str := ["value", "place", "marker", "things"]
abbrev P_valueat : List Str := ["value", "place"]
theorem sc_valueat : FnScope N_valueat P_valueat (defScope s_valueat) := ⟨rfl, rfl, rfl, by decide +kernel, rfl, by decide +kernel, by decide +kernel⟩
noncomputable def B_valueat_1 : Fst := (fSeq (fSet 3 (fCall F_thingsof (fCons (fPv 0) fNil)))
(fSeq (fIfS (fTest (fOp (oDIn true) (fPv 2) (fPv 3)))
(fRet (fC (.d .none)))
fSkip)
(fSet 0 (fOp oDGet (fPv 3) (fPv 2)))))
noncomputable def B_valueat : Fst := (fSeq (fFor (fiT (fPv 1)) (.nm 2)
(B_valueat_1))
(fRet (fPv 0)))
noncomputable def F_valueat : Fn := dropF (fnOf 2 4 (B_valueat))

abbrev s_lfeed : Stmt := topS 12
abbrev N_lfeed : List Str := ["_law_script"]
abbrev P_lfeed : List Str := ["_law_script"]
theorem sc_lfeed : FnScope N_lfeed P_lfeed (defScope s_lfeed) := ⟨rfl, rfl, rfl, by decide +kernel, rfl, by decide +kernel, by decide +kernel⟩
noncomputable def B_lfeed : Fst := (fRet (fLstM (fCons (fSl oSlL (fPv 0) fNoP (fPart (fC (.d (.int 63))))) (fCons (fC (.d (.int 0))) (fCons (fC (.d (.int 0))) (fCons (fC (.d (.int 0))) fNil))))))
noncomputable def F_lfeed : Fn := fnOf 1 1 (B_lfeed)

abbrev s_ldraw : Stmt := topS 13
abbrev N_ldraw : List Str := ["_law_feed_here", "_law_many", "_law_found_here", "_law_cell", "_law_mixed"]
abbrev P_ldraw : List Str := ["_law_feed_here", "_law_many"]
theorem sc_ldraw : FnScope N_ldraw P_ldraw (defScope s_ldraw) := ⟨rfl, rfl, rfl, by decide +kernel, rfl, by decide +kernel, by decide +kernel⟩
noncomputable def B_ldraw_1 : Fst := (fSeq (fPut (fOp oAdd (fOp oIxL (fPv 0) (fC (.d (.int 1)))) (fC (.d (.int 1)))) (fPv 0) (fC (.d (.int 1))))
(fSeq (fIfS (fAndT (fTest (fOp oGe (fPv 3) (fOp oPow (fC (.d (.int 10))) (fC (.d (.int 18)))))) (fTest (fOp oLe (fOp oIxL (fPv 0) (fC (.d (.int 1)))) (fCall oLen (fCons (fOp oIxL (fPv 0) (fC (.d (.int 0)))) fNil)))))
(fSeq (fPut (fOp oFdiv (fPv 3) (fPv 1)) (fPv 0) (fC (.d (.int 2))))
(fRet (fOp oMod (fPv 3) (fPv 1))))
fSkip)
(fSeq (fSet 4 (fOp oMod (fOp oPow (fOp oAdd (fOp oAdd (fOp oMod (fPv 3) (fC (.d (.int 2147483629)))) (fOp oMul (fC (.d (.int 7919))) (fOp oIxL (fPv 0) (fC (.d (.int 3)))))) (fC (.d (.int 1)))) (fC (.d (.int 5)))) (fC (.d (.int 2147483647)))))
(fRet (fOp oMod (fOp oFdiv (fOp oMod (fOp oPow (fOp oAdd (fPv 4) (fOp oMul (fC (.d (.int 104729))) (fOp oIxL (fPv 0) (fC (.d (.int 3)))))) (fC (.d (.int 5)))) (fC (.d (.int 2147483587)))) (fC (.d (.int 64)))) (fPv 1))))))
noncomputable def B_ldraw : Fst := (fSeq (fPut (fOp oAdd (fOp oIxL (fPv 0) (fC (.d (.int 3)))) (fC (.d (.int 1)))) (fPv 0) (fC (.d (.int 3))))
(fSeq (fIfS (fTest (fOp oGt (fOp oIxL (fPv 0) (fC (.d (.int 2)))) (fC (.d (.int 0)))))
(fSeq (fSet 2 (fOp oMod (fOp oIxL (fPv 0) (fC (.d (.int 2)))) (fPv 1)))
(fSeq (fPut (fOp oFdiv (fOp oIxL (fPv 0) (fC (.d (.int 2)))) (fPv 1)) (fPv 0) (fC (.d (.int 2))))
(fRet (fPv 2))))
fSkip)
(fSeq (fSet 3 (fC (.d (.int 5))))
(fSeq (fIfS (fTest (fOp (oEqD true) (fOp oIxL (fPv 0) (fC (.d (.int 0)))) (fLst fNil)))
(fSet 3 (fOp oIxL (fOp oIxL (fPv 0) (fC (.d (.int 0)))) (fOp oMod (fOp oIxL (fPv 0) (fC (.d (.int 1)))) (fCall oLen (fCons (fOp oIxL (fPv 0) (fC (.d (.int 0)))) fNil)))))
fSkip)
(B_ldraw_1)))))
noncomputable def F_ldraw : Fn := dropF (fnOf 2 5 (B_ldraw))

abbrev s_lplain : Stmt := topS 14
abbrev N_lplain : List Str := ["_law_feed_here"]
abbrev P_lplain : List Str := ["_law_feed_here"]
theorem sc_lplain : FnScope N_lplain P_lplain (defScope s_lplain) := ⟨rfl, rfl, rfl, by decide +kernel, rfl, by decide +kernel, by decide +kernel⟩
noncomputable def B_lplain : Fst := (fRet (fOp oIxL (fLst (fCons (fC (.d (.int 0))) (fCons (fC (.d (.int 1))) (fCons (fC (.d (.int 2))) (fCons (fNeg (fC (.d (.int 1)))) (fCons (fC (.d (.bool true))) (fCons (fC (.d (.bool false))) (fCons (fC (.d (.str "a"))) (fCons (fC (.d (.str ""))) (fCons (fC (.d (.str "1"))) (fCons (fC (.d (.str "yes"))) (fCons (fC (.d (.str "b2"))) (fCons (fC (.d (.int 999999))) (fCons (fNeg (fC (.d (.int 40)))) (fCons (fC (.d (.int 1))) fNil))))))))))))))) (fCall F_ldraw (fCons (fPv 0) (fCons (fC (.d (.int 14))) fNil)))))
noncomputable def F_lplain : Fn := dropF (fnOf 1 1 (B_lplain))

abbrev s_ltree : Stmt := topS 16
abbrev N_ltree : List Str := ["_law_feed_here", "_law_some", "_law_pool", "_law_fields", "_law_one"]
abbrev P_ltree : List Str := ["_law_feed_here", "_law_some"]
theorem sc_ltree : FnScope N_ltree P_ltree (defScope s_ltree) := ⟨rfl, rfl, rfl, by decide +kernel, rfl, by decide +kernel, by decide +kernel⟩
noncomputable def B_ltree : Fst := (fSeq (fSet 2 (fLstM (fCons (fC (.d (.str "a"))) (fCons (fC (.d (.str "b"))) (fCons (fC (.d (.str "k"))) (fCons (fC (.d (.str "kk"))) (fCons (fC (.d (.str "x"))) (fCons (fC (.d (.str "yes"))) fNil))))))))
(fSeq (fSet 3 (fLc (fiL (fPv 1)) (.nm 4) fYes (fTup (fCons (fMethL oPopAt (fPv 2) (fCons (fCall F_ldraw (fCons (fPv 0) (fCons (fCall oLen (fCons (fPv 2) fNil)) fNil))) fNil)) (fCons (fPv 4) fNil))) [4]))
(fRet (fTup (fCons (fC (.d (.str "tree"))) (fCons (fCall oTuple (fCons (fSortIx 0 (fCons (fPv 3) fNil)) fNil)) fNil))))))
noncomputable def F_ltree : Fn := dropF (fnOf 2 5 (B_ltree))

abbrev s_lvalue : Stmt := topS 15
abbrev N_lvalue : List Str := ["_law_feed_here", "_law_deep", "_law_left", "_law_way", "_law_many", "_law_some", "_law_k"]
abbrev P_lvalue : List Str := ["_law_feed_here", "_law_deep", "_law_left"]
theorem sc_lvalue : FnScope N_lvalue P_lvalue (defScope s_lvalue) := ⟨rfl, rfl, rfl, by decide +kernel, rfl, by decide +kernel, by decide +kernel⟩
noncomputable def B_lvalue (self : Fn) : Fst := (fSeq (fPut (fOp oSub (fOp oIxL (fPv 2) (fC (.d (.int 0)))) (fC (.d (.int 1)))) (fPv 2) (fC (.d (.int 0))))
(fSeq (fSet 3 (fCall F_ldraw (fCons (fPv 0) (fCons (fC (.d (.int 6))) fNil))))
(fSeq (fIfS (fOrT (fTest (fOp oLt (fPv 3) (fC (.d (.int 2))))) (fOrT (fTest (fOp (oEqS false) (fPv 1) (fC (.d (.int 0))))) (fTest (fOp oLt (fOp oIxL (fPv 2) (fC (.d (.int 0)))) (fC (.d (.int 2)))))))
(fRet (fCall F_lplain (fCons (fPv 0) fNil)))
fSkip)
(fSeq (fSet 4 (fCall F_ldraw (fCons (fPv 0) (fCons (fCall oMin2 (fCons (fC (.d (.int 4))) (fCons (fOp oIxL (fPv 2) (fC (.d (.int 0)))) fNil))) fNil))))
(fSeq (fSet 5 (fLc (fiR1 (fCons (fPv 4) fNil)) (.nm 6) (fTest (fOp oGt (fOp oIxL (fPv 2) (fC (.d (.int 0)))) (fC (.d (.int 0))))) (fCall self (fCons (fPv 0) (fCons (fOp oSub (fPv 1) (fC (.d (.int 1)))) (fCons (fPv 2) fNil)))) [6]))
(fSeq (fIfS (fTest (fOp oLt (fPv 3) (fC (.d (.int 4)))))
(fRet (fTup (fCons (fC (.d (.str "row"))) (fCons (fCall oTuple (fCons (fPv 5) fNil)) fNil))))
fSkip)
(fRet (fCall F_ltree (fCons (fPv 0) (fCons (fPv 5) fNil))))))))))
noncomputable def F_lvalue : Nat → Fn
  | 0 => fun _ _ => .bad
  | n + 1 => let self := F_lvalue n
    dropF (fnOf 3 7 (B_lvalue self))

abbrev s_ldocument : Stmt := topS 17
abbrev N_ldocument : List Str := ["_law_feed_here", "_law_left", "_law_some", "_law_k"]
abbrev P_ldocument : List Str := ["_law_feed_here"]
theorem sc_ldocument : FnScope N_ldocument P_ldocument (defScope s_ldocument) := ⟨rfl, rfl, rfl, by decide +kernel, rfl, by decide +kernel, by decide +kernel⟩
noncomputable def B_ldocument_1 : Fst := (fIfS (fTest (fOp oGt (fOp oIxL (fPv 1) (fC (.d (.int 0)))) (fC (.d (.int 0)))))
(fEx (fMethL oAppend (fPv 2) (fCons (fCall (F_lvalue 4) (fCons (fPv 0) (fCons (fC (.d (.int 3))) (fCons (fPv 1) fNil)))) fNil)))
fSkip)
noncomputable def B_ldocument : Fst := (fSeq (fPar 1 2 (fCons (fLstM (fCons (fC (.d (.int 29))) fNil)) (fCons (fLstM fNil) fNil)))
(fSeq (fFor (fiR1 (fCons (fOp oIxL (fLst (fCons (fC (.d (.int 3))) (fCons (fC (.d (.int 4))) (fCons (fC (.d (.int 5))) (fCons (fC (.d (.int 0))) (fCons (fC (.d (.int 2))) fNil)))))) (fCall F_ldraw (fCons (fPv 0) (fCons (fC (.d (.int 5))) fNil)))) fNil)) (.nm 3)
(B_ldocument_1))
(fRet (fCall F_ltree (fCons (fPv 0) (fCons (fPv 2) fNil))))))
noncomputable def F_ldocument : Fn := dropF (fnOf 1 4 (B_ldocument))

abbrev s_lisa : Stmt := topS 18
abbrev N_lisa : List Str := ["_law_value_here", "_law_kind"]
abbrev P_lisa : List Str := ["_law_value_here", "_law_kind"]
theorem sc_lisa : FnScope N_lisa P_lisa (defScope s_lisa) := ⟨rfl, rfl, rfl, by decide +kernel, rfl, by decide +kernel, by decide +kernel⟩
noncomputable def B_lisa : Fst := (fRet (fAndV (fCall oIsi (fCons (fPv 0) (fCons (fC (.t "tuple")) fNil))) (fOp (oEqD false) (fOp oIxT (fPv 0) (fC (.d (.int 0)))) (fPv 1))))
noncomputable def F_lisa : Fn := dropF (fnOf 2 2 (B_lisa))

abbrev s_lstep : Stmt := topS 19
abbrev N_lstep : List Str := ["_law_feed_here", "_law_pool", "_law_way", "_law_word"]
abbrev P_lstep : List Str := ["_law_feed_here"]
theorem sc_lstep : FnScope N_lstep P_lstep (defScope s_lstep) := ⟨rfl, rfl, rfl, by decide +kernel, rfl, by decide +kernel, by decide +kernel⟩
noncomputable def B_lstep : Fst := (fSeq (fSet 1 (fLst (fCons (fC (.d (.str "a"))) (fCons (fC (.d (.str "b"))) (fCons (fC (.d (.str "k"))) (fCons (fC (.d (.str "kk"))) (fCons (fC (.d (.str "x"))) (fCons (fC (.d (.str "yes"))) (fCons (fC (.d (.str "q"))) fNil)))))))))
(fSeq (fSet 2 (fCall F_ldraw (fCons (fPv 0) (fCons (fC (.d (.int 4))) fNil))))
(fSeq (fIfS (fTest (fOp (oEqS false) (fPv 2) (fC (.d (.int 0)))))
(fRet (fTup (fCons (fC (.d (.str "each"))) fNil)))
fSkip)
(fSeq (fIfS (fTest (fOp (oEqS false) (fPv 2) (fC (.d (.int 1)))))
(fRet (fTup (fCons (fC (.d (.str "at"))) (fCons (fCall F_ldraw (fCons (fPv 0) (fCons (fC (.d (.int 4))) fNil))) fNil))))
fSkip)
(fSeq (fSet 3 (fOp oIxL (fPv 1) (fCall F_ldraw (fCons (fPv 0) (fCons (fC (.d (.int 7))) fNil)))))
(fRet (fIf (fTest (fOp (oEqS false) (fPv 2) (fC (.d (.int 2))))) (fTup (fCons (fC (.d (.str "field"))) (fCons (fPv 3) fNil))) (fTup (fCons (fC (.d (.str "where"))) (fCons (fPv 3) (fCons (fCall F_lplain (fCons (fPv 0) fNil)) fNil)))))))))))
noncomputable def F_lstep : Fn := dropF (fnOf 1 4 (B_lstep))

abbrev s_lpath : Stmt := topS 20
abbrev N_lpath : List Str := ["_law_feed_here", "_law_here", "_law_most", "_law_steps", "_law_k", "_law_fields", "_law_word", "_law_at_here", "_law_inner", "_law_way", "_law_pair"]
abbrev P_lpath : List Str := ["_law_feed_here", "_law_here", "_law_most"]
theorem sc_lpath : FnScope N_lpath P_lpath (defScope s_lpath) := ⟨rfl, rfl, rfl, by decide +kernel, rfl, by decide +kernel, by decide +kernel⟩
noncomputable def B_lpath_1 : Fst := (fSeq (fSet 5 (fIf (fTest (fCall oIsi (fCons (fPv 1) (fCons (fC (.t "tuple")) fNil)))) (fOp oIxT (fPv 1) (fC (.d (.int 1)))) (fTup fNil)))
(fIfS (fOrT (fTest (fOp (oEqD false) (fPv 5) (fTup fNil))) (fTest (fOp (oEqS false) (fCall F_ldraw (fCons (fPv 0) (fCons (fC (.d (.int 8))) fNil))) (fC (.d (.int 0))))))
(fEx (fMethL oAppend (fPv 3) (fCons (fCall F_lstep (fCons (fPv 0) fNil)) fNil)))
(fIfS (fTest (fOp (oEqD false) (fOp oIxT (fPv 1) (fC (.d (.int 0)))) (fC (.d (.str "tree")))))
(fSeq (fAsg (fOp oIxT (fPv 5) (fCall F_ldraw (fCons (fPv 0) (fCons (fCall oLen (fCons (fPv 5) fNil)) fNil)))) (.tp [(.nm 6), (.nm 1)]))
(fEx (fMethL oAppend (fPv 3) (fCons (fTup (fCons (fC (.d (.str "field"))) (fCons (fPv 6) fNil))) fNil))))
(fSeq (fSet 7 (fCall F_ldraw (fCons (fPv 0) (fCons (fCall oLen (fCons (fPv 5) fNil)) fNil))))
(fSeq (fSet 1 (fOp oIxT (fPv 5) (fPv 7)))
(fSeq (fSet 8 (fIf (fTest (fCall F_lisa (fCons (fPv 1) (fCons (fC (.d (.str "tree"))) fNil)))) (fOp oIxT (fPv 1) (fC (.d (.int 1)))) (fTup fNil)))
(fSeq (fSet 8 (fLc (fiT (fPv 8)) (.nm 10) (fNotT (fTest (fCall oIsi (fCons (fOp oIxT (fPv 10) (fC (.d (.int 1)))) (fCons (fC (.t "tuple")) fNil))))) (fPv 10) [10]))
(fSeq (fSet 9 (fCall F_ldraw (fCons (fPv 0) (fCons (fC (.d (.int 3))) fNil))))
(fIfS (fAndT (fTest (fOp (oEqS false) (fPv 9) (fC (.d (.int 2))))) (fTest (fOp (oEqD true) (fPv 8) (fLst fNil))))
(fEx (fMethL oAppend (fPv 3) (fCons (fOp oCatT (fTup (fCons (fC (.d (.str "where"))) fNil)) (fOp oIxL (fPv 8) (fCall F_ldraw (fCons (fPv 0) (fCons (fCall oLen (fCons (fPv 8) fNil)) fNil))))) fNil)))
(fEx (fMethL oAppend (fPv 3) (fCons (fIf (fTest (fOp (oEqS false) (fPv 9) (fC (.d (.int 0))))) (fTup (fCons (fC (.d (.str "at"))) (fCons (fPv 7) fNil))) (fTup (fCons (fC (.d (.str "each"))) fNil))) fNil))))))))))))
noncomputable def B_lpath : Fst := (fSeq (fSet 3 (fLstM fNil))
(fSeq (fFor (fiR1 (fCons (fOp oAdd (fC (.d (.int 1))) (fCall F_ldraw (fCons (fPv 0) (fCons (fPv 2) fNil)))) fNil)) (.nm 4)
(B_lpath_1))
(fRet (fCall oTuple (fCons (fPv 3) fNil)))))
noncomputable def F_lpath : Fn := dropF (fnOf 3 11 (B_lpath))

abbrev s_lcome : Stmt := topS 21
abbrev N_lcome : List Str := ["_law_value_here", "_law_step_here", "_law_things", "_law_wanted", "_law_pair", "_law_one"]
abbrev P_lcome : List Str := ["_law_value_here", "_law_step_here"]
theorem sc_lcome : FnScope N_lcome P_lcome (defScope s_lcome) := ⟨rfl, rfl, rfl, by decide +kernel, rfl, by decide +kernel, by decide +kernel⟩
noncomputable def B_lcome : Fst := (fSeq (fIfS (fTest (fOp (oEqD false) (fOp oIxT (fPv 1) (fC (.d (.int 0)))) (fC (.d (.str "field")))))
(fRet (fIf (fTest (fCall F_lisa (fCons (fPv 0) (fCons (fC (.d (.str "tree"))) fNil)))) (fLc (fiT (fOp oIxT (fPv 0) (fC (.d (.int 1))))) (.nm 4) (fTest (fOp (oEqD false) (fOp oIxT (fPv 4) (fC (.d (.int 0)))) (fOp oIxT (fPv 1) (fC (.d (.int 1)))))) (fPv 4) [4]) (fLst fNil)))
fSkip)
(fSeq (fIfS (fNotT (fTest (fCall F_lisa (fCons (fPv 0) (fCons (fC (.d (.str "row"))) fNil)))))
(fRet (fLst fNil))
fSkip)
(fSeq (fSet 2 (fListEnum (fCons (fOp oIxT (fPv 0) (fC (.d (.int 1)))) fNil)))
(fSeq (fIfS (fTest (fOp (oEqD false) (fOp oIxT (fPv 1) (fC (.d (.int 0)))) (fC (.d (.str "at")))))
(fRet (fSl oSlL (fPv 2) (fPart (fOp oIxT (fPv 1) (fC (.d (.int 1))))) (fPart (fOp oAdd (fOp oIxT (fPv 1) (fC (.d (.int 1)))) (fC (.d (.int 1)))))))
fSkip)
(fSeq (fIfS (fTest (fOp (oEqD false) (fOp oIxT (fPv 1) (fC (.d (.int 0)))) (fC (.d (.str "each")))))
(fRet (fPv 2))
fSkip)
(fSeq (fSet 3 (fCall oRepr (fCons (fTup (fCons (fOp oIxT (fPv 1) (fC (.d (.int 1)))) (fCons (fOp oIxT (fPv 1) (fC (.d (.int 2)))) fNil))) fNil)))
(fRet (fLc (fiL (fPv 2)) (.nm 4) (fAndT (fTest (fCall F_lisa (fCons (fOp oIxT (fPv 4) (fC (.d (.int 1)))) (fCons (fC (.d (.str "tree"))) fNil)))) (fTest (fOp (oIn false) (fPv 3) (fLc (fiT (fOp oIxT (fOp oIxT (fPv 4) (fC (.d (.int 1)))) (fC (.d (.int 1))))) (.nm 5) fYes (fCall oRepr (fCons (fPv 5) fNil)) [5])))) (fPv 4) [4]))))))))
noncomputable def F_lcome : Fn := dropF (fnOf 2 6 (B_lcome))

abbrev s_lfound : Stmt := topS 22
abbrev N_lfound : List Str := ["_law_value_here", "_law_path_here", "_law_here", "_law_step_here", "_law_more", "_law_place", "_law_one", "_law_marker", "_law_other"]
abbrev P_lfound : List Str := ["_law_value_here", "_law_path_here"]
theorem sc_lfound : FnScope N_lfound P_lfound (defScope s_lfound) := ⟨rfl, rfl, rfl, by decide +kernel, rfl, by decide +kernel, by decide +kernel⟩
noncomputable def B_lfound_1 : Fst := (fEx (fMethL oExtend (fPv 4) (fCons (fLc (fiL (fCall F_lcome (fCons (fPv 6) (fCons (fPv 3) fNil)))) (.tp [(.nm 7), (.nm 8)]) fYes (fTup (fCons (fOp oCatT (fPv 5) (fTup (fCons (fPv 7) fNil))) (fCons (fPv 8) fNil))) [7, 8]) fNil)))
noncomputable def B_lfound_2 : Fst := (fSeq (fSet 4 (fLstM fNil))
(fSeq (fFor (fiL (fPv 2)) (.tp [(.nm 5), (.nm 6)])
(B_lfound_1))
(fSet 2 (fPv 4))))
noncomputable def B_lfound : Fst := (fSeq (fSet 2 (fLst (fCons (fTup (fCons (fTup fNil) (fCons (fPv 0) fNil))) fNil)))
(fSeq (fFor (fiT (fPv 1)) (.nm 3)
(B_lfound_2))
(fRet (fPv 2))))
noncomputable def F_lfound : Fn := dropF (fnOf 2 9 (B_lfound))

abbrev s_lat : Stmt := topS 23
abbrev N_lat : List Str := ["_law_value_here", "_law_place", "_law_here", "_law_marker", "_law_step_here", "_law_pair"]
abbrev P_lat : List Str := ["_law_value_here", "_law_place"]
theorem sc_lat : FnScope N_lat P_lat (defScope s_lat) := ⟨rfl, rfl, rfl, by decide +kernel, rfl, by decide +kernel, by decide +kernel⟩
noncomputable def B_lat_1 : Fst := (fSeq (fSet 4 (fIf (fTest (fCall oIsi (fCons (fPv 3) (fCons (fC (.t "str")) fNil)))) (fTup (fCons (fC (.d (.str "field"))) (fCons (fPv 3) fNil))) (fTup (fCons (fC (.d (.str "at"))) (fCons (fPv 3) fNil)))))
(fSeq (fSet 2 (fLc (fiL (fCall F_lcome (fCons (fOp oIxL (fPv 2) (fC (.d (.int 0)))) (fCons (fPv 4) fNil)))) (.nm 5) fYes (fOp oIxT (fPv 5) (fC (.d (.int 1)))) [5]))
(fIfS (fTest (fOp (oEqD false) (fPv 2) (fLst fNil)))
(fRet (fLst fNil))
fSkip)))
noncomputable def B_lat : Fst := (fSeq (fSet 2 (fLst (fCons (fPv 0) fNil)))
(fSeq (fFor (fiT (fPv 1)) (.nm 3)
(B_lat_1))
(fRet (fPv 2))))
noncomputable def F_lat : Fn := dropF (fnOf 2 6 (B_lat))

abbrev s_lplaces : Stmt := topS 24
abbrev N_lplaces : List Str := ["_law_feed_here", "_law_place", "_law_found_here", "_law_at_here", "_law_marker"]
abbrev P_lplaces : List Str := ["_law_feed_here", "_law_place"]
theorem sc_lplaces : FnScope N_lplaces P_lplaces (defScope s_lplaces) := ⟨rfl, rfl, rfl, by decide +kernel, rfl, by decide +kernel, by decide +kernel⟩
noncomputable def B_lplaces_1 : Fst := (fEx (fMethL oAppend (fPv 2) (fCons (fOp oCatT (fOp oCatT (fSl oSlT (fPv 1) fNoP (fPart (fPv 3))) (fTup (fCons (fPv 4) fNil))) (fSl oSlT (fPv 1) (fPart (fOp oAdd (fPv 3) (fC (.d (.int 1))))) fNoP)) fNil)))
noncomputable def B_lplaces_2 : Fst := (fRet (fPv 2))
noncomputable def B_lplaces : Fst := (fSeq (fSet 2 (fLstM (fCons (fPv 1) (fCons (fSl oSlT (fPv 1) (fPart (fC (.d (.int 1)))) fNoP) (fCons (fSl oSlT (fPv 1) fNoP (fPart (fNeg (fC (.d (.int 1)))))) (fCons (fOp oCatT (fPv 1) (fTup (fCons (fC (.d (.int 0))) fNil))) (fCons (fOp oCatT (fPv 1) (fTup (fCons (fC (.d (.str "a"))) fNil))) (fCons (fOp oMulT (fPv 1) (fC (.d (.int 2)))) (fCons (fTup fNil) (fCons (fTup (fCons (fC (.d (.int 0))) fNil)) (fCons (fTup (fCons (fC (.d (.str "q"))) fNil)) (fCons (fTup (fCons (fC (.d (.str "a"))) (fCons (fC (.d (.int 0))) fNil))) fNil))))))))))))
(fSeq (fIfS (fTest (fOp (oEqD true) (fPv 1) (fTup fNil)))
(fSeq (fSet 3 (fCall F_ldraw (fCons (fPv 0) (fCons (fCall oLen (fCons (fPv 1) fNil)) fNil))))
(fFor (fiT (fTup (fCons (fC (.d (.int 0))) (fCons (fC (.d (.int 1))) (fCons (fC (.d (.int 5))) (fCons (fC (.d (.str "a"))) (fCons (fC (.d (.str "k"))) (fCons (fOp oPow (fC (.d (.int 10))) (fC (.d (.int 30)))) fNil)))))))) (.nm 4)
(B_lplaces_1)))
fSkip)
(B_lplaces_2)))
noncomputable def F_lplaces : Fn := dropF (fnOf 2 5 (B_lplaces))

abbrev s_law : Stmt := topS 25
abbrev N_law : List Str := ["_law_script", "_law_feed_here", "_law_turn", "_law_document_here", "_law_every", "_law_value_here", "_law_kept", "_law_k", "_law_path_here", "_law_due", "_law_seen", "_law_place", "_law_own", "_law_word", "_law_one", "_law_step_here", "_law_wide", "_law_long", "_law_pair"]
abbrev P_law : List Str := ["_law_script"]
theorem sc_law : FnScope N_law P_law (defScope s_law) := ⟨rfl, rfl, rfl, by decide +kernel, rfl, by decide +kernel, by decide +kernel⟩
noncomputable def B_law_1 : Fst := (fSeq (fSet 12 (fOp oIxL (fOp oCatL (fCall F_lat (fCons (fPv 5) (fCons (fPv 11) fNil))) (fLst (fCons (fC (.d .none)) fNil))) (fC (.d (.int 0)))))
(fIfS (fTest (fOp (oEqS true) (fCall oRepr (fCons (fCall F_valueat (fCons (fPv 5) (fCons (fPv 11) fNil))) fNil)) (fCall oRepr (fCons (fPv 12) fNil))))
(fRet (fC (.d (.bool false))))
fSkip))
noncomputable def B_law_2 : Fst := (fSeq (fSet 8 (fCall F_lpath (fCons (fPv 1) (fCons (fPv 5) (fCons (fC (.d (.int 5))) fNil)))))
(fSeq (fPar 9 10 (fCons (fCall oTuple (fCons (fCall F_lfound (fCons (fPv 5) (fCons (fPv 8) fNil))) fNil)) (fCons (fCall oRepr (fCons (fPv 8) fNil)) fNil)))
(fSeq (fIfS (fOrT (fTest (fOp (oEqS true) (fCall oRepr (fCons (fCall F_foundin (fCons (fPv 5) (fCons (fPv 8) fNil))) fNil)) (fCall oRepr (fCons (fPv 9) fNil)))) (fTest (fOp (oEqS true) (fCall oRepr (fCons (fPv 8) fNil)) (fPv 10))))
(fRet (fC (.d (.bool false))))
fSkip)
(fFor (fiL (fCall F_lplaces (fCons (fPv 1) (fCons (fOp oIxT (fOp oIxT (fOp oCatT (fPv 9) (fTup (fCons (fTup (fCons (fTup fNil) (fCons (fC (.d .none)) fNil))) fNil))) (fC (.d (.int 0)))) (fC (.d (.int 0)))) fNil)))) (.nm 11)
(B_law_1)))))
noncomputable def B_law_3 : Fst := (fSeq (fSet 6 (fCall oRepr (fCons (fPv 5) fNil)))
(fSeq (fFor (fiR1 (fCons (fC (.d (.int 5))) fNil)) (.nm 7)
(B_law_2))
(fIfS (fTest (fOp (oEqS true) (fCall oRepr (fCons (fPv 5) fNil)) (fPv 6)))
(fRet (fC (.d (.bool false))))
fSkip)))
noncomputable def B_law_4 : Fst := (fSeq (fSet 8 (fTup (fCons (fTup (fCons (fC (.d (.str "field"))) (fCons (fPv 13) fNil))) (fCons (fPv 15) fNil))))
(fIfS (fTest (fOp (oEqS true) (fCall oRepr (fCons (fCall F_foundin (fCons (fPv 3) (fCons (fPv 8) fNil))) fNil)) (fCall oRepr (fCons (fCall oTuple (fCons (fCall F_lfound (fCons (fPv 3) (fCons (fPv 8) fNil))) fNil)) fNil))))
(fRet (fC (.d (.bool false))))
fSkip))
noncomputable def B_law_5 : Fst := (fFor (fiT (fTup (fCons (fTup (fCons (fC (.d (.str "each"))) fNil)) (fCons (fTup (fCons (fC (.d (.str "at"))) (fCons (fC (.d (.int 0))) fNil))) (fCons (fTup (fCons (fC (.d (.str "at"))) (fCons (fOp oPow (fC (.d (.int 10))) (fC (.d (.int 20)))) fNil))) (fCons (fTup (fCons (fC (.d (.str "field"))) (fCons (fC (.d (.str "a"))) fNil))) (fCons (fTup (fCons (fC (.d (.str "where"))) (fCons (fC (.d (.str "a"))) (fCons (fC (.d (.int 1))) fNil)))) (fCons (fTup (fCons (fC (.d (.str "where"))) (fCons (fC (.d (.str "k"))) (fCons (fC (.d (.str ""))) fNil)))) fNil)))))))) (.nm 15)
(B_law_4))
noncomputable def B_law_6 : Fst := (fSeq (fSet 3 (fCall F_ldocument (fCons (fPv 1) fNil)))
(fSeq (fSet 4 (fOp oCatL (fOp oCatL (fLst (fCons (fPv 3) fNil)) (fLc (fiT (fOp oIxT (fPv 3) (fC (.d (.int 1))))) (.nm 18) fYes (fOp oIxT (fPv 18) (fC (.d (.int 1)))) [18])) (fLst (fCons (fCall F_lplain (fCons (fPv 1) fNil)) fNil))))
(fSeq (fFor (fiL (fPv 4)) (.nm 5)
(B_law_3))
(fFor (fiT (fOp oIxT (fPv 3) (fC (.d (.int 1))))) (.tp [(.nm 13), (.nm 14)])
(B_law_5)))))
noncomputable def B_law_7 : Fst := (fSeq (fSet 8 (fTup (fCons (fTup (fCons (fC (.d (.str "field"))) (fCons (fC (.d (.str "a"))) fNil))) (fCons (fPv 15) fNil))))
(fIfS (fTest (fOp (oEqS true) (fCall oRepr (fCons (fCall F_foundin (fCons (fPv 14) (fCons (fPv 8) fNil))) fNil)) (fCall oRepr (fCons (fCall oTuple (fCons (fCall F_lfound (fCons (fPv 14) (fCons (fPv 8) fNil))) fNil)) fNil))))
(fRet (fC (.d (.bool false))))
fSkip))
noncomputable def B_law_8 : Fst := (fFor (fiT (fTup (fCons (fPv 16) (fCons (fPv 17) fNil)))) (.nm 14)
(B_law_7))
noncomputable def B_law : Fst := (fSeq (fSet 1 (fCall F_lfeed (fCons (fPv 0) fNil)))
(fSeq (fFor (fiR1 (fCons (fC (.d (.int 3))) fNil)) (.nm 2)
(B_law_6))
(fSeq (fSet 16 (fTup (fCons (fC (.d (.str "tree"))) (fCons (fTup (fCons (fTup (fCons (fC (.d (.str "a"))) (fCons (fTup (fCons (fC (.d (.str "row"))) (fCons (fTupRg (fC (.d (.int 25)))) fNil))) fNil))) fNil)) fNil))))
(fSeq (fSet 17 (fTup (fCons (fC (.d (.str "tree"))) (fCons (fTup (fCons (fTup (fCons (fC (.d (.str "a"))) (fCons (fTup (fCons (fC (.d (.str "row"))) (fCons (fOp oMulT (fTup (fCons (fTup (fCons (fC (.d (.str "tree"))) (fCons (fTup (fCons (fTup (fCons (fC (.d (.str "k"))) (fCons (fC (.d (.int 1))) fNil))) fNil)) fNil))) fNil)) (fC (.d (.int 9)))) fNil))) fNil))) fNil)) fNil))))
(fSeq (fFor (fiT (fTup (fCons (fTup (fCons (fC (.d (.str "each"))) fNil)) (fCons (fTup (fCons (fC (.d (.str "at"))) (fCons (fC (.d (.int 24))) fNil))) (fCons (fTup (fCons (fC (.d (.str "at"))) (fCons (fC (.d (.int 8))) fNil))) (fCons (fTup (fCons (fC (.d (.str "where"))) (fCons (fC (.d (.str "k"))) (fCons (fC (.d (.int 1))) fNil)))) fNil)))))) (.nm 15)
(B_law_8))
(fRet (fC (.d (.bool true)))))))))
noncomputable def F_law : Fn := dropF (fnOf 1 19 (B_law))

end Fu

set_option Elab.async false
set_option linter.all false
set_option maxRecDepth 100000
set_option maxHeartbeats 4000000
namespace Fu
open PySem PySem.Spec PyProof.Rows L2 Dat LamX RZ
section
variable {P : Program} {w : World} {K : PySem.W.Frag} {mg : Str → Option Value} {base : Heap} {T : List (Addr × Str)}
theorem c_isrow (D : DefG K mg "is_row" s_isrow)  (m_isinstance : mg "isinstance" = none) (m_tuple : mg "tuple" = none) : CalG P w K mg base 1 "is_row" (spF K T F_isrow) [] :=
  (CalG.drop (calF (n := 1) (N := N_isrow) (ps := P_isrow) (B := B_isrow) D sc_isrow rfl (fun f fd F => F.binds fun _ _ _ _ _ _ us hl => match us, hl with | [_], _ => rfl) fun f cdv A outer s H E gd hr => by
    have nd := sc_isrow.nd
    have hu := hr.units
    have hu1 : _ + 1 < cLine := Nat.lt_of_le_of_lt (Nat.add_le_add_left (by decide : 1 ≤ 64) _) hu
    exact (fs_one (fs_ret (fe_and (x_isinstance K (by rfl) m_isinstance b_isinstance (fa_cons (fv 0) (fa_cons (fe_ty (n := "tuple") (by rfl) m_tuple b_tuple) fa_nil))) (fe_one (x_eqD K hu (x_ixT K (fv 0) fe_int) fe_str)))))))

theorem c_istree (D : DefG K mg "is_tree" s_istree)  (m_isinstance : mg "isinstance" = none) (m_tuple : mg "tuple" = none) : CalG P w K mg base 1 "is_tree" (spF K T F_istree) [] :=
  (CalG.drop (calF (n := 1) (N := N_istree) (ps := P_istree) (B := B_istree) D sc_istree rfl (fun f fd F => F.binds fun _ _ _ _ _ _ us hl => match us, hl with | [_], _ => rfl) fun f cdv A outer s H E gd hr => by
    have nd := sc_istree.nd
    have hu := hr.units
    have hu1 : _ + 1 < cLine := Nat.lt_of_le_of_lt (Nat.add_le_add_left (by decide : 1 ≤ 64) _) hu
    exact (fs_one (fs_ret (fe_and (x_isinstance K (by rfl) m_isinstance b_isinstance (fa_cons (fv 0) (fa_cons (fe_ty (n := "tuple") (by rfl) m_tuple b_tuple) fa_nil))) (fe_one (x_eqD K hu (x_ixT K (fv 0) fe_int) fe_str)))))))

theorem c_islike (D : DefG K mg "is_like" s_islike)  (m_all : mg "all" = none) (m_bool : mg "bool" = none) (m_isinstance : mg "isinstance" = none) (m_len : mg "len" = none) (m_tuple : mg "tuple" = none) (m_zip : mg "zip" = none) : ∀ n, CalG P w K mg base (n + 0) "is_like" (spF K T (F_islike n)) []
  | 0 => CalG.mono (calF.none (ps := P_islike) D (fun f fd F => F.binds fun _ _ _ _ _ _ us hl => match us, hl with | [_, _], _ => rfl)) (by omega)
  | n + 1 => by
    have c_islike := c_islike D  m_all m_bool m_isinstance m_len m_tuple m_zip n
    exact CalG.mono (CalG.drop (calF (k := n + 0) (n := 2) (N := N_islike) (ps := P_islike) (B := B_islike (F_islike n)) D sc_islike rfl (fun f fd F => F.binds fun _ _ _ _ _ _ us hl => match us, hl with | [_, _], _ => rfl) fun f cdv A outer s H E gd hr => by
      have nd := sc_islike.nd
      have hu := hr.units
      have hu1 : _ + 1 < cLine := Nat.lt_of_le_of_lt (Nat.add_le_add_left (by decide : 1 ≤ 64) _) hu
      exact (fs_cons (fs_if (PW.pt (fw_and (ft_val (x_isinstance K (by rfl) m_isinstance b_isinstance (fa_cons (fv 0) (fa_cons (fe_ty (n := "tuple") (by rfl) m_tuple b_tuple) fa_nil)))) (fw_and1 (ft_val (x_isinstance K (by rfl) m_isinstance b_isinstance (fa_cons (fv 1) (fa_cons (fe_ty (n := "tuple") (by rfl) m_tuple b_tuple) fa_nil)))))))
(fs_cons (fs_if (t_neS K (x_len K (by rfl) m_len b_len (fa_cons (fv 0) fa_nil)) (x_len K (by rfl) m_len b_len (fa_cons (fv 1) fa_nil)))
(fs_one (fs_ret fe_bl))
fs_nil)
(fs_one (fs_ret (x_all K rfl (by rfl) m_all b_all (fa_cons (fe_lc (own := [("part", 2), ("match", 3)]) rfl nd (fi_Z K (by rfl) m_zip (fa_cons (fv 0) (fa_cons (fv 1) fa_nil))) (blkOk_by (N := N_islike) (sc := defScope s_islike) (by decide +kernel)) (by decide) (fun _ _ _ _ _ => (fg_tup K (fgs_cons (fg_name (i := 2) nd rfl (Or.inl rfl)) (fgs_cons (fg_name (i := 3) nd rfl (Or.inl rfl)) fgs_nil)))) (fun _ _ _ _ _ => fts_nil) (fun _ _ _ _ _ => (fe_cG c_islike gd hr (by omega) (by rfl) (fa_cons (fv 2) (fa_cons (fv 3) fa_nil))))) fa_nil)))))
fs_nil)
(fs_one (fs_ret (fe_and (x_eqS K (x_isinstance K (by rfl) m_isinstance b_isinstance (fa_cons (fv 0) (fa_cons (fe_ty (n := "bool") (by rfl) m_bool b_bool) fa_nil))) (x_isinstance K (by rfl) m_isinstance b_isinstance (fa_cons (fv 1) (fa_cons (fe_ty (n := "bool") (by rfl) m_bool b_bool) fa_nil)))) (fe_one (x_eqD K hu (fv 0) (fv 1))))))))) (by omega)

theorem c_thingsof (D : DefG K mg "things_of" s_thingsof) (c_isrow : CalG P w K mg base 1 "is_row" (spF K T F_isrow) []) (c_istree : CalG P w K mg base 1 "is_tree" (spF K T F_istree) []) (m_dict : mg "dict" = none) (m_enumerate : mg "enumerate" = none) : CalG P w K mg base 2 "things_of" (spF K T F_thingsof) [] :=
  (calF (n := 1) (N := N_thingsof) (ps := P_thingsof) (B := B_thingsof) D sc_thingsof rfl (fun f fd F => F.binds fun _ _ _ _ _ _ us hl => match us, hl with | [_], _ => rfl) fun f cdv A outer s H E gd hr => by
    have nd := sc_thingsof.nd
    have hu := hr.units
    have hu1 : _ + 1 < cLine := Nat.lt_of_le_of_lt (Nat.add_le_add_left (by decide : 1 ≤ 64) _) hu
    exact (fs_cons (fs_if (ft_val (fe_cG c_istree gd hr (by omega) (by rfl) (fa_cons (fv 0) fa_nil)))
(fs_one (fs_ret (x_dict K rfl (by rfl) m_dict b_dict (fa_cons (x_ixT K (fv 0) fe_int) fa_nil))))
fs_nil)
(fs_cons (fs_if (ft_val (fe_cG c_isrow gd hr (by omega) (by rfl) (fa_cons (fv 0) fa_nil)))
(fs_one (fs_ret (fe_dictEnum K rfl (by rfl) m_dict b_dict (by rfl) m_enumerate (fa_cons (x_ixT K (fv 0) fe_int) fa_nil))))
fs_nil)
(fs_one (fs_ret (x_dict0 K))))))

theorem c_haslike (D : DefG K mg "has_like" s_haslike) (c_islike : CalG P w K mg base 15 "is_like" (spF K T (F_islike 15)) []) (c_thingsof : CalG P w K mg base 2 "things_of" (spF K T F_thingsof) [])  : CalG P w K mg base 16 "has_like" (spF K T F_haslike) [] :=
  (CalG.drop (calF (n := 3) (N := N_haslike) (ps := P_haslike) (B := B_haslike) D sc_haslike rfl (fun f fd F => F.binds fun _ _ _ _ _ _ us hl => match us, hl with | [_, _, _], _ => rfl) fun f cdv A outer s H E gd hr => by
    have nd := sc_haslike.nd
    have hu := hr.units
    have hu1 : _ + 1 < cLine := Nat.lt_of_le_of_lt (Nat.add_le_add_left (by decide : 1 ≤ 64) _) hu
    exact (fs_cons (fs_set (i := 3) nd rfl (Or.inl rfl) (fe_cG c_thingsof gd hr (by omega) (by rfl) (fa_cons (fv 0) fa_nil)))
(fs_one (fs_ret (fe_and (x_din K hu1 (fv 1) (fv 3)) (fe_one (fe_cG c_islike gd hr (by omega) (by rfl) (fa_cons (x_dget K hu1 (fv 3) (fv 1)) (fa_cons (fv 2) fa_nil))))))))))

end
end Fu

set_option Elab.async false
set_option linter.all false
set_option maxRecDepth 100000
set_option maxHeartbeats 4000000
namespace Fu
open PySem PySem.Spec PyProof.Rows L2 Dat LamX RZ
section
variable {P : Program} {w : World} {K : PySem.W.Frag} {mg : Str → Option Value} {base : Heap} {T : List (Addr × Str)}
theorem c_comesby (D : DefG K mg "comes_by" s_comesby) (c_haslike : CalG P w K mg base 16 "has_like" (spF K T F_haslike) []) (c_isrow : CalG P w K mg base 1 "is_row" (spF K T F_isrow) []) (c_thingsof : CalG P w K mg base 2 "things_of" (spF K T F_thingsof) []) (m_list : mg "list" = none) : CalG P w K mg base 17 "comes_by" (spF K T F_comesby) [] :=
  (CalG.drop (calF (n := 2) (N := N_comesby) (ps := P_comesby) (B := B_comesby) D sc_comesby rfl (fun f fd F => F.binds fun _ _ _ _ _ _ us hl => match us, hl with | [_, _], _ => rfl) fun f cdv A outer s H E gd hr => by
    have nd := sc_comesby.nd
    have hu := hr.units
    have hu1 : _ + 1 < cLine := Nat.lt_of_le_of_lt (Nat.add_le_add_left (by decide : 1 ≤ 64) _) hu
    exact (fs_cons (fs_set (i := 2) nd rfl (Or.inl rfl) (x_ixT K (fv 1) fe_int))
(fs_cons (fs_set (i := 3) nd rfl (Or.inl rfl) (fe_cG c_thingsof gd hr (by omega) (by rfl) (fa_cons (fv 0) fa_nil)))
(fs_cons (fs_if (PW.pt (fw_or (t_eqD K hu (fv 2) fe_str) (fw_or1 (t_eqD K hu (fv 2) fe_str))))
(fs_one (fs_ret (fe_if (t_din K hu1 (x_ixT K (fv 1) fe_int) (fv 3)) (fe_lst (fa_cons (fe_tup (fa_cons (x_ixT K (fv 1) fe_int) (fa_cons (x_dget K hu1 (fv 3) (x_ixT K (fv 1) fe_int)) fa_nil))) fa_nil)) (fe_lst fa_nil))))
fs_nil)
(fs_cons (fs_if (ft_not (ft_val (fe_cG c_isrow gd hr (by omega) (by rfl) (fa_cons (fv 0) fa_nil))))
(fs_one (fs_ret (fe_lst fa_nil)))
fs_nil)
(fs_cons (fs_if (t_eqD K hu (fv 2) fe_str)
(fs_one (fs_ret (fe_listItems rfl (fv 3) (by rfl) m_list b_list)))
fs_nil)
(fs_one (fs_ret (fe_lock (j := 3) (fe_lc (own := [("number", 4), ("thing", 5)]) rfl nd (fi_items (fv 3)) (blkOk_by (N := N_comesby) (sc := defScope s_comesby) (by decide +kernel)) (by decide) (fun _ _ _ _ _ => (fg_tup K (fgs_cons (fg_name (i := 4) nd rfl (Or.inl rfl)) (fgs_cons (fg_name (i := 5) nd rfl (Or.inl rfl)) fgs_nil)))) (fun _ _ _ _ _ => (fts_one (ft_val (fe_cG c_haslike gd hr (by omega) (by rfl) (fa_cons (fv 5) (fa_cons (x_ixT K (fv 1) fe_int) (fa_cons (x_ixT K (fv 1) fe_int) fa_nil))))))) (fun _ _ _ _ _ => (fe_tup (fa_cons (fv 4) (fa_cons (fv 5) fa_nil)))))))))))))))

theorem c_foundin (D : DefG K mg "found_in" s_foundin) (c_comesby : CalG P w K mg base 17 "comes_by" (spF K T F_comesby) []) (m_tuple : mg "tuple" = none) : CalG P w K mg base 18 "found_in" (spF K T F_foundin) [] :=
  (CalG.drop (calF (n := 2) (N := N_foundin) (ps := P_foundin) (B := B_foundin) D sc_foundin rfl (fun f fd F => F.binds fun _ _ _ _ _ _ us hl => match us, hl with | [_, _], _ => rfl) fun f cdv A outer s H E gd hr => by
    have nd := sc_foundin.nd
    have hu := hr.units
    have hu1 : _ + 1 < cLine := Nat.lt_of_le_of_lt (Nat.add_le_add_left (by decide : 1 ≤ 64) _) hu
    exact (fs_cons (fs_set (i := 2) nd rfl (Or.inl rfl) (fe_lst (fa_cons (fe_tup (fa_cons (fe_tup fa_nil) (fa_cons (fv 0) fa_nil))) fa_nil)))
(fs_cons (fs_for PassesOwn.never rfl (fi_T K (fv 1)) (fg_name (i := 3) nd rfl (Or.inr rfl))
(fs_one (fs_setLc2 (i := 2) (own := [("place", 4), ("held", 5), ("marker", 6), ("thing", 7)]) (vs1 := [6, 7]) rfl nd rfl rfl (sw_true rfl rfl rfl (by decide +kernel)) (fi_L K (fv 2)) (blkOk_by (N := N_foundin) (sc := defScope s_foundin) (by decide +kernel)) (by decide) (by decide) (by decide) (fun _ _ _ _ _ => (fg_tup K (fgs_cons (fg_name (i := 4) nd rfl (Or.inl rfl)) (fgs_cons (fg_name (i := 5) nd rfl (Or.inl rfl)) fgs_nil)))) (fun _ _ _ _ _ => fts_nil) (fun _ _ _ _ _ => (fi_L K (fe_cG c_comesby gd hr (by omega) (by rfl) (fa_cons (fv 5) (fa_cons (fv 3) fa_nil))))) (fun _ _ _ _ _ => (fg_tup K (fgs_cons (fg_name (i := 6) nd rfl (Or.inl rfl)) (fgs_cons (fg_name (i := 7) nd rfl (Or.inl rfl)) fgs_nil)))) (fun _ _ _ _ _ => fts_nil) (fun _ _ _ _ _ => (fe_tup (fa_cons (x_catT K (fv 4) (fe_tup (fa_cons (fv 6) fa_nil))) (fa_cons (fv 7) fa_nil)))))))
(fs_one (fs_ret (x_tuple K (by rfl) m_tuple b_tuple (fa_cons (fv 2) fa_nil))))))))

theorem c_valueat (D : DefG K mg "value_at" s_valueat) (c_thingsof : CalG P w K mg base 2 "things_of" (spF K T F_thingsof) [])  : CalG P w K mg base 3 "value_at" (spF K T F_valueat) [] :=
  (CalG.drop (calF (n := 2) (N := N_valueat) (ps := P_valueat) (B := B_valueat) D sc_valueat rfl (fun f fd F => F.binds fun _ _ _ _ _ _ us hl => match us, hl with | [_, _], _ => rfl) fun f cdv A outer s H E gd hr => by
    have nd := sc_valueat.nd
    have hu := hr.units
    have hu1 : _ + 1 < cLine := Nat.lt_of_le_of_lt (Nat.add_le_add_left (by decide : 1 ≤ 64) _) hu
    exact (fs_cons (fs_for PassesOwn.never rfl (fi_T K (fv 1)) (fg_name (i := 2) nd rfl (Or.inl rfl))
(fs_cons (fs_set (i := 3) nd rfl (Or.inl rfl) (fe_cG c_thingsof gd hr (by omega) (by rfl) (fa_cons (fv 0) fa_nil)))
(fs_cons (fs_if (t_dnotin K hu1 (fv 2) (fv 3))
(fs_one (fs_ret fe_non))
fs_nil)
(fs_one (fs_set (i := 0) nd rfl (Or.inl rfl) (x_dget K hu1 (fv 3) (fv 2)))))))
(fs_one (fs_ret (fv 0))))))

end
end Fu

set_option Elab.async false
set_option linter.all false
set_option maxRecDepth 100000
set_option maxHeartbeats 4000000
namespace Fu
open PySem PySem.Spec PyProof.Rows L2 Dat LamX RZ
section
variable {P : Program} {w : World} {K : PySem.W.Frag} {mg : Str → Option Value} {base : Heap} {T : List (Addr × Str)}
theorem c_lfeed (D : DefG K mg "_law_feed" s_lfeed)   : CalG P w K mg base 1 "_law_feed" (spF K T F_lfeed) [] :=
  (calF (n := 1) (N := N_lfeed) (ps := P_lfeed) (B := B_lfeed) D sc_lfeed rfl (fun f fd F => F.binds fun _ _ _ _ _ _ us hl => match us, hl with | [_], _ => rfl) fun f cdv A outer s H E gd hr => by
    have nd := sc_lfeed.nd
    have hu := hr.units
    have hu1 : _ + 1 < cLine := Nat.lt_of_le_of_lt (Nat.add_le_add_left (by decide : 1 ≤ 64) _) hu
    exact (fs_one (fs_ret (fe_lstM (fa_cons (x_slL K (fv 0) fo_none (fo_some fe_int)) (fa_cons fe_int (fa_cons fe_int (fa_cons fe_int fa_nil))))))))

theorem c_ldraw (D : DefG K mg "_law_draw" s_ldraw)  (m_len : mg "len" = none) : CalG P w K mg base 1 "_law_draw" (spF K T F_ldraw) [] :=
  (CalG.drop (calF (n := 2) (N := N_ldraw) (ps := P_ldraw) (B := B_ldraw) D sc_ldraw rfl (fun f fd F => F.binds fun _ _ _ _ _ _ us hl => match us, hl with | [_, _], _ => rfl) fun f cdv A outer s H E gd hr => by
    have nd := sc_ldraw.nd
    have hu := hr.units
    have hu1 : _ + 1 < cLine := Nat.lt_of_le_of_lt (Nat.add_le_add_left (by decide : 1 ≤ 64) _) hu
    exact (fs_cons (fs_put (x_add K (x_ixL K (fv 0) fe_int) fe_int) (fv 0) fe_int)
(fs_cons (fs_if (t_gt K (x_ixL K (fv 0) fe_int) fe_int)
(fs_cons (fs_set (i := 2) nd rfl (Or.inl rfl) (x_mod K (x_ixL K (fv 0) fe_int) (fv 1)))
(fs_cons (fs_put (x_fdiv K (x_ixL K (fv 0) fe_int) (fv 1)) (fv 0) fe_int)
(fs_one (fs_ret (fv 2)))))
fs_nil)
(fs_cons (fs_set (i := 3) nd rfl (Or.inl rfl) fe_int)
(fs_cons (fs_if (t_neD K hu (x_ixL K (fv 0) fe_int) (fe_lst fa_nil))
(fs_one (fs_set (i := 3) nd rfl (Or.inl rfl) (x_ixL K (x_ixL K (fv 0) fe_int) (x_mod K (x_ixL K (fv 0) fe_int) (x_len K (by rfl) m_len b_len (fa_cons (x_ixL K (fv 0) fe_int) fa_nil))))))
fs_nil)
(fs_cons (fs_put (x_add K (x_ixL K (fv 0) fe_int) fe_int) (fv 0) fe_int)
(fs_cons (fs_if (PW.pt (fw_and (t_ge K (fv 3) (x_pow K fe_int fe_int)) (fw_and1 (t_le K (x_ixL K (fv 0) fe_int) (x_len K (by rfl) m_len b_len (fa_cons (x_ixL K (fv 0) fe_int) fa_nil))))))
(fs_cons (fs_put (x_fdiv K (fv 3) (fv 1)) (fv 0) fe_int)
(fs_one (fs_ret (x_mod K (fv 3) (fv 1)))))
fs_nil)
(fs_cons (fs_set (i := 4) nd rfl (Or.inl rfl) (x_mod K (x_pow K (x_add K (x_add K (x_mod K (fv 3) fe_int) (x_mul K fe_int (x_ixL K (fv 0) fe_int))) fe_int) fe_int) fe_int))
(fs_one (fs_ret (x_mod K (x_fdiv K (x_mod K (x_pow K (x_add K (fv 4) (x_mul K fe_int (x_ixL K (fv 0) fe_int))) fe_int) fe_int) fe_int) (fv 1)))))))))))))

theorem c_lplain (D : DefG K mg "_law_plain" s_lplain) (c_ldraw : CalG P w K mg base 1 "_law_draw" (spF K T F_ldraw) [])  : CalG P w K mg base 2 "_law_plain" (spF K T F_lplain) [] :=
  (CalG.drop (calF (n := 1) (N := N_lplain) (ps := P_lplain) (B := B_lplain) D sc_lplain rfl (fun f fd F => F.binds fun _ _ _ _ _ _ us hl => match us, hl with | [_], _ => rfl) fun f cdv A outer s H E gd hr => by
    have nd := sc_lplain.nd
    have hu := hr.units
    have hu1 : _ + 1 < cLine := Nat.lt_of_le_of_lt (Nat.add_le_add_left (by decide : 1 ≤ 64) _) hu
    exact (fs_one (fs_ret (x_ixL K (fe_lst (fa_cons fe_int (fa_cons fe_int (fa_cons fe_int (fa_cons (fe_neg fe_int) (fa_cons fe_bl (fa_cons fe_bl (fa_cons fe_str (fa_cons fe_str (fa_cons fe_str (fa_cons fe_str (fa_cons fe_str (fa_cons fe_int (fa_cons (fe_neg fe_int) (fa_cons fe_int fa_nil))))))))))))))) (fe_cG c_ldraw gd hr (by omega) (by rfl) (fa_cons (fv 0) (fa_cons fe_int fa_nil))))))))

theorem c_ltree {c PT : Addr} (D : DefC K mg "_law_tree" s_ltree (.ref c)) (TB : TabB base mg c PT) (hm : (PT, lamQ "_law_tree") ∈ T) (hux : ∀ p ∈ T, p.1 = PT → p.2 = lamQ "_law_tree") (c_ldraw : CalG P w K mg base 1 "_law_draw" (spF K T F_ldraw) []) (m_len : mg "len" = none) (m_sorted : mg "sorted" = none) (m_tuple : mg "tuple" = none) : CalG P w K mg base 4 "_law_tree" (spF K T F_ltree) [] :=
  (CalG.drop (calFC (n := 2) (N := N_ltree) (ps := P_ltree) (B := B_ltree) D sc_ltree rfl (fun f fd F => F.binds fun _ _ _ _ _ _ us hl => match us, hl with | [_, _], _ => rfl) fun f A outer s H E gd hr => by
    have nd := sc_ltree.nd
    have hu := hr.units
    have hu1 : _ + 1 < cLine := Nat.lt_of_le_of_lt (Nat.add_le_add_left (by decide : 1 ≤ 64) _) hu
    exact (fs_cons (fs_set (i := 2) nd rfl (Or.inr rfl) (fe_lstM (fa_cons fe_str (fa_cons fe_str (fa_cons fe_str (fa_cons fe_str (fa_cons fe_str (fa_cons fe_str fa_nil))))))))
(fs_cons (fs_setLc (i := 3) (own := [("_law_one", 4)]) rfl nd rfl rfl (sw_true rfl rfl rfl (by decide +kernel)) (fi_L K (fv 1)) (blkOk_by (N := N_ltree) (sc := defScope s_ltree) (by decide +kernel)) (by decide) (fun _ _ _ _ _ => (fg_name (i := 4) nd rfl (Or.inl rfl))) (fun _ _ _ _ _ => fts_nil) (fun _ _ _ _ _ => (fe_tup (fa_cons (x_popAt K (fv 2) (fa_cons (fe_cG c_ldraw gd hr (by omega) (by rfl) (fa_cons (fv 0) (fa_cons (x_len K (by rfl) m_len b_len (fa_cons (fv 2) fa_nil)) fa_nil))) fa_nil)) (fa_cons (fv 4) fa_nil)))))
(fs_one (fs_ret (fe_tup (fa_cons fe_str (fa_cons (x_tuple K (by rfl) m_tuple b_tuple (fa_cons (fe_sortedIx K (i := 0) (p := "_law_pair") (k := 0) TB rfl hm hux gd (hr.mono (by omega)) rfl (by rfl) m_sorted (fa_cons (fv 3) fa_nil) ⟨rfl, rfl, rfl, by decide +kernel, rfl, by decide +kernel, by decide +kernel⟩ (fun f cd A outer s H E gd hr => pe_ix (k_ixT K) (pv 0) pe_int (fun _ _ => rfl))) fa_nil)) fa_nil)))))))))

end
end Fu

set_option Elab.async false
set_option linter.all false
set_option maxRecDepth 100000
set_option maxHeartbeats 4000000
namespace Fu
open PySem PySem.Spec PyProof.Rows L2 Dat LamX RZ
section
variable {P : Program} {w : World} {K : PySem.W.Frag} {mg : Str → Option Value} {base : Heap} {T : List (Addr × Str)}
theorem c_lvalue (D : DefG K mg "_law_value" s_lvalue) (c_ldraw : CalG P w K mg base 1 "_law_draw" (spF K T F_ldraw) []) (c_lplain : CalG P w K mg base 2 "_law_plain" (spF K T F_lplain) []) (c_ltree : CalG P w K mg base 4 "_law_tree" (spF K T F_ltree) []) (m_min : mg "min" = none) (m_range : mg "range" = none) (m_tuple : mg "tuple" = none) : ∀ n, CalG P w K mg base (n + 4) "_law_value" (spF K T (F_lvalue n)) []
  | 0 => CalG.mono (calF.none (ps := P_lvalue) D (fun f fd F => F.binds fun _ _ _ _ _ _ us hl => match us, hl with | [_, _, _], _ => rfl)) (by omega)
  | n + 1 => by
    have c_lvalue := c_lvalue D c_ldraw c_lplain c_ltree m_min m_range m_tuple n
    exact CalG.mono (CalG.drop (calF (k := n + 4) (n := 3) (N := N_lvalue) (ps := P_lvalue) (B := B_lvalue (F_lvalue n)) D sc_lvalue rfl (fun f fd F => F.binds fun _ _ _ _ _ _ us hl => match us, hl with | [_, _, _], _ => rfl) fun f cdv A outer s H E gd hr => by
      have nd := sc_lvalue.nd
      have hu := hr.units
      have hu1 : _ + 1 < cLine := Nat.lt_of_le_of_lt (Nat.add_le_add_left (by decide : 1 ≤ 64) _) hu
      exact (fs_cons (fs_put (x_sub K (x_ixL K (fv 2) fe_int) fe_int) (fv 2) fe_int)
(fs_cons (fs_set (i := 3) nd rfl (Or.inl rfl) (fe_cG c_ldraw gd hr (by omega) (by rfl) (fa_cons (fv 0) (fa_cons fe_int fa_nil))))
(fs_cons (fs_if (PW.pt (fw_or (t_lt K (fv 3) fe_int) (fw_or (t_eqS K (fv 1) fe_int) (fw_or1 (t_lt K (x_ixL K (fv 2) fe_int) fe_int)))))
(fs_one (fs_ret (fe_cG c_lplain gd hr (by omega) (by rfl) (fa_cons (fv 0) fa_nil))))
fs_nil)
(fs_cons (fs_set (i := 4) nd rfl (Or.inl rfl) (fe_cG c_ldraw gd hr (by omega) (by rfl) (fa_cons (fv 0) (fa_cons (x_min K rfl (by rfl) m_min b_min (fa_cons fe_int (fa_cons (x_ixL K (fv 2) fe_int) fa_nil))) fa_nil))))
(fs_cons (fs_setLc (i := 5) (own := [("_law_k", 6)]) rfl nd rfl rfl (sw_true rfl rfl rfl (by decide +kernel)) (fi_R1 rfl m_range (fa_cons (fv 4) fa_nil)) (blkOk_by (N := N_lvalue) (sc := defScope s_lvalue) (by decide +kernel)) (by decide) (fun _ _ _ _ _ => (fg_name (i := 6) nd rfl (Or.inl rfl))) (fun _ _ _ _ _ => (fts_one (t_gt K (x_ixL K (fv 2) fe_int) fe_int))) (fun _ _ _ _ _ => (fe_cG c_lvalue gd hr (by omega) (by rfl) (fa_cons (fv 0) (fa_cons (x_sub K (fv 1) fe_int) (fa_cons (fv 2) fa_nil))))))
(fs_cons (fs_if (t_lt K (fv 3) fe_int)
(fs_one (fs_ret (fe_tup (fa_cons fe_str (fa_cons (x_tuple K (by rfl) m_tuple b_tuple (fa_cons (fv 5) fa_nil)) fa_nil)))))
fs_nil)
(fs_one (fs_ret (fe_cG c_ltree gd hr (by omega) (by rfl) (fa_cons (fv 0) (fa_cons (fv 5) fa_nil))))))))))))) (by omega)

theorem c_ldocument (D : DefG K mg "_law_document" s_ldocument) (c_ldraw : CalG P w K mg base 1 "_law_draw" (spF K T F_ldraw) []) (c_ltree : CalG P w K mg base 4 "_law_tree" (spF K T F_ltree) []) (c_lvalue : CalG P w K mg base 8 "_law_value" (spF K T (F_lvalue 4)) []) (m_range : mg "range" = none) : CalG P w K mg base 9 "_law_document" (spF K T F_ldocument) [] :=
  (CalG.drop (calF (n := 1) (N := N_ldocument) (ps := P_ldocument) (B := B_ldocument) D sc_ldocument rfl (fun f fd F => F.binds fun _ _ _ _ _ _ us hl => match us, hl with | [_], _ => rfl) fun f cdv A outer s H E gd hr => by
    have nd := sc_ldocument.nd
    have hu := hr.units
    have hu1 : _ + 1 < cLine := Nat.lt_of_le_of_lt (Nat.add_le_add_left (by decide : 1 ≤ 64) _) hu
    exact (fs_cons (fs_par (i := 1) (j := 2) rfl nd rfl rfl (by decide) rfl rfl (fa_cons (fe_lstM (fa_cons fe_int fa_nil)) (fa_cons (fe_lstM fa_nil) fa_nil)) rfl)
(fs_cons (fs_for PassesOwn.never rfl (fi_R1 rfl m_range (fa_cons (x_ixL K (fe_lst (fa_cons fe_int (fa_cons fe_int (fa_cons fe_int (fa_cons fe_int (fa_cons fe_int fa_nil)))))) (fe_cG c_ldraw gd hr (by omega) (by rfl) (fa_cons (fv 0) (fa_cons fe_int fa_nil)))) fa_nil)) (fg_name (i := 3) nd rfl (Or.inl rfl))
(fs_one (fs_if (t_gt K (x_ixL K (fv 1) fe_int) fe_int)
(fs_one (fs_expr (x_append K (fv 2) (fa_cons (fe_cG c_lvalue gd hr (by omega) (by rfl) (fa_cons (fv 0) (fa_cons fe_int (fa_cons (fv 1) fa_nil)))) fa_nil))))
fs_nil)))
(fs_one (fs_ret (fe_cG c_ltree gd hr (by omega) (by rfl) (fa_cons (fv 0) (fa_cons (fv 2) fa_nil)))))))))

theorem c_lisa (D : DefG K mg "_law_is_a" s_lisa)  (m_isinstance : mg "isinstance" = none) (m_tuple : mg "tuple" = none) : CalG P w K mg base 1 "_law_is_a" (spF K T F_lisa) [] :=
  (CalG.drop (calF (n := 2) (N := N_lisa) (ps := P_lisa) (B := B_lisa) D sc_lisa rfl (fun f fd F => F.binds fun _ _ _ _ _ _ us hl => match us, hl with | [_, _], _ => rfl) fun f cdv A outer s H E gd hr => by
    have nd := sc_lisa.nd
    have hu := hr.units
    have hu1 : _ + 1 < cLine := Nat.lt_of_le_of_lt (Nat.add_le_add_left (by decide : 1 ≤ 64) _) hu
    exact (fs_one (fs_ret (fe_and (x_isinstance K (by rfl) m_isinstance b_isinstance (fa_cons (fv 0) (fa_cons (fe_ty (n := "tuple") (by rfl) m_tuple b_tuple) fa_nil))) (fe_one (x_eqD K hu (x_ixT K (fv 0) fe_int) (fv 1))))))))

theorem c_lstep (D : DefG K mg "_law_step" s_lstep) (c_ldraw : CalG P w K mg base 1 "_law_draw" (spF K T F_ldraw) []) (c_lplain : CalG P w K mg base 2 "_law_plain" (spF K T F_lplain) [])  : CalG P w K mg base 3 "_law_step" (spF K T F_lstep) [] :=
  (CalG.drop (calF (n := 1) (N := N_lstep) (ps := P_lstep) (B := B_lstep) D sc_lstep rfl (fun f fd F => F.binds fun _ _ _ _ _ _ us hl => match us, hl with | [_], _ => rfl) fun f cdv A outer s H E gd hr => by
    have nd := sc_lstep.nd
    have hu := hr.units
    have hu1 : _ + 1 < cLine := Nat.lt_of_le_of_lt (Nat.add_le_add_left (by decide : 1 ≤ 64) _) hu
    exact (fs_cons (fs_set (i := 1) nd rfl (Or.inl rfl) (fe_lst (fa_cons fe_str (fa_cons fe_str (fa_cons fe_str (fa_cons fe_str (fa_cons fe_str (fa_cons fe_str (fa_cons fe_str fa_nil)))))))))
(fs_cons (fs_set (i := 2) nd rfl (Or.inl rfl) (fe_cG c_ldraw gd hr (by omega) (by rfl) (fa_cons (fv 0) (fa_cons fe_int fa_nil))))
(fs_cons (fs_if (t_eqS K (fv 2) fe_int)
(fs_one (fs_ret (fe_tup (fa_cons fe_str fa_nil))))
fs_nil)
(fs_cons (fs_if (t_eqS K (fv 2) fe_int)
(fs_one (fs_ret (fe_tup (fa_cons fe_str (fa_cons (fe_cG c_ldraw gd hr (by omega) (by rfl) (fa_cons (fv 0) (fa_cons fe_int fa_nil))) fa_nil)))))
fs_nil)
(fs_cons (fs_set (i := 3) nd rfl (Or.inl rfl) (x_ixL K (fv 1) (fe_cG c_ldraw gd hr (by omega) (by rfl) (fa_cons (fv 0) (fa_cons fe_int fa_nil)))))
(fs_one (fs_ret (fe_if (t_eqS K (fv 2) fe_int) (fe_tup (fa_cons fe_str (fa_cons (fv 3) fa_nil))) (fe_tup (fa_cons fe_str (fa_cons (fv 3) (fa_cons (fe_cG c_lplain gd hr (by omega) (by rfl) (fa_cons (fv 0) fa_nil)) fa_nil))))))))))))))

end
end Fu

set_option Elab.async false
set_option linter.all false
set_option maxRecDepth 100000
set_option maxHeartbeats 4000000
namespace Fu
open PySem PySem.Spec PyProof.Rows L2 Dat LamX RZ
section
variable {P : Program} {w : World} {K : PySem.W.Frag} {mg : Str → Option Value} {base : Heap} {T : List (Addr × Str)}
theorem c_lpath (D : DefG K mg "_law_path" s_lpath) (c_ldraw : CalG P w K mg base 1 "_law_draw" (spF K T F_ldraw) []) (c_lisa : CalG P w K mg base 1 "_law_is_a" (spF K T F_lisa) []) (c_lstep : CalG P w K mg base 3 "_law_step" (spF K T F_lstep) []) (m_isinstance : mg "isinstance" = none) (m_len : mg "len" = none) (m_range : mg "range" = none) (m_tuple : mg "tuple" = none) : CalG P w K mg base 4 "_law_path" (spF K T F_lpath) [] :=
  (CalG.drop (calF (n := 3) (N := N_lpath) (ps := P_lpath) (B := B_lpath) D sc_lpath rfl (fun f fd F => F.binds fun _ _ _ _ _ _ us hl => match us, hl with | [_, _, _], _ => rfl) fun f cdv A outer s H E gd hr => by
    have nd := sc_lpath.nd
    have hu := hr.units
    have hu1 : _ + 1 < cLine := Nat.lt_of_le_of_lt (Nat.add_le_add_left (by decide : 1 ≤ 64) _) hu
    exact (fs_cons (fs_set (i := 3) nd rfl (Or.inl rfl) (fe_lstM fa_nil))
(fs_cons (fs_for PassesOwn.never rfl (fi_R1 rfl m_range (fa_cons (x_add K fe_int (fe_cG c_ldraw gd hr (by omega) (by rfl) (fa_cons (fv 0) (fa_cons (fv 2) fa_nil)))) fa_nil)) (fg_name (i := 4) nd rfl (Or.inl rfl))
(fs_cons (fs_set (i := 5) nd rfl (Or.inl rfl) (fe_if (ft_val (x_isinstance K (by rfl) m_isinstance b_isinstance (fa_cons (fv 1) (fa_cons (fe_ty (n := "tuple") (by rfl) m_tuple b_tuple) fa_nil)))) (x_ixT K (fv 1) fe_int) (fe_tup fa_nil)))
(fs_one (fs_if (PW.pt (fw_or (t_eqD K hu (fv 5) (fe_tup fa_nil)) (fw_or1 (t_eqS K (fe_cG c_ldraw gd hr (by omega) (by rfl) (fa_cons (fv 0) (fa_cons fe_int fa_nil))) fe_int))))
(fs_one (fs_expr (x_append K (fv 3) (fa_cons (fe_cG c_lstep gd hr (by omega) (by rfl) (fa_cons (fv 0) fa_nil)) fa_nil))))
(fs_one (fs_if (t_eqD K hu (x_ixT K (fv 1) fe_int) fe_str)
(fs_cons (fs_asg (x_ixT K (fv 5) (fe_cG c_ldraw gd hr (by omega) (by rfl) (fa_cons (fv 0) (fa_cons (x_len K (by rfl) m_len b_len (fa_cons (fv 5) fa_nil)) fa_nil)))) (fg_tup K (fgs_cons (fg_name (i := 6) nd rfl (Or.inl rfl)) (fgs_cons (fg_name (i := 1) nd rfl (Or.inl rfl)) fgs_nil))))
(fs_one (fs_expr (x_append K (fv 3) (fa_cons (fe_tup (fa_cons fe_str (fa_cons (fv 6) fa_nil))) fa_nil)))))
(fs_cons (fs_set (i := 7) nd rfl (Or.inl rfl) (fe_cG c_ldraw gd hr (by omega) (by rfl) (fa_cons (fv 0) (fa_cons (x_len K (by rfl) m_len b_len (fa_cons (fv 5) fa_nil)) fa_nil))))
(fs_cons (fs_set (i := 1) nd rfl (Or.inl rfl) (x_ixT K (fv 5) (fv 7)))
(fs_cons (fs_set (i := 8) nd rfl (Or.inl rfl) (fe_if (ft_val (fe_cG c_lisa gd hr (by omega) (by rfl) (fa_cons (fv 1) (fa_cons fe_str fa_nil)))) (x_ixT K (fv 1) fe_int) (fe_tup fa_nil)))
(fs_cons (fs_setLc (i := 8) (own := [("_law_pair", 10)]) rfl nd rfl rfl (sw_true rfl rfl rfl (by decide +kernel)) (fi_T K (fv 8)) (blkOk_by (N := N_lpath) (sc := defScope s_lpath) (by decide +kernel)) (by decide) (fun _ _ _ _ _ => (fg_name (i := 10) nd rfl (Or.inl rfl))) (fun _ _ _ _ _ => (fts_one (ft_not (ft_val (x_isinstance K (by rfl) m_isinstance b_isinstance (fa_cons (x_ixT K (fv 10) fe_int) (fa_cons (fe_ty (n := "tuple") (by rfl) m_tuple b_tuple) fa_nil))))))) (fun _ _ _ _ _ => (fv 10)))
(fs_cons (fs_set (i := 9) nd rfl (Or.inl rfl) (fe_cG c_ldraw gd hr (by omega) (by rfl) (fa_cons (fv 0) (fa_cons fe_int fa_nil))))
(fs_one (fs_if (PW.pt (fw_and (t_eqS K (fv 9) fe_int) (fw_and1 (t_neD K hu (fv 8) (fe_lst fa_nil)))))
(fs_one (fs_expr (x_append K (fv 3) (fa_cons (x_catT K (fe_tup (fa_cons fe_str fa_nil)) (x_ixL K (fv 8) (fe_cG c_ldraw gd hr (by omega) (by rfl) (fa_cons (fv 0) (fa_cons (x_len K (by rfl) m_len b_len (fa_cons (fv 8) fa_nil)) fa_nil))))) fa_nil))))
(fs_one (fs_expr (x_append K (fv 3) (fa_cons (fe_if (t_eqS K (fv 9) fe_int) (fe_tup (fa_cons fe_str (fa_cons (fv 7) fa_nil))) (fe_tup (fa_cons fe_str fa_nil))) fa_nil)))))))))))))))))
(fs_one (fs_ret (x_tuple K (by rfl) m_tuple b_tuple (fa_cons (fv 3) fa_nil))))))))

theorem c_lcome (D : DefG K mg "_law_come" s_lcome) (c_lisa : CalG P w K mg base 1 "_law_is_a" (spF K T F_lisa) []) (m_enumerate : mg "enumerate" = none) (m_list : mg "list" = none) (m_repr : mg "repr" = none) : CalG P w K mg base 2 "_law_come" (spF K T F_lcome) [] :=
  (CalG.drop (calF (n := 2) (N := N_lcome) (ps := P_lcome) (B := B_lcome) D sc_lcome rfl (fun f fd F => F.binds fun _ _ _ _ _ _ us hl => match us, hl with | [_, _], _ => rfl) fun f cdv A outer s H E gd hr => by
    have nd := sc_lcome.nd
    have hu := hr.units
    have hu1 : _ + 1 < cLine := Nat.lt_of_le_of_lt (Nat.add_le_add_left (by decide : 1 ≤ 64) _) hu
    exact (fs_cons (fs_if (t_eqD K hu (x_ixT K (fv 1) fe_int) fe_str)
(fs_one (fs_ret (fe_if (ft_val (fe_cG c_lisa gd hr (by omega) (by rfl) (fa_cons (fv 0) (fa_cons fe_str fa_nil)))) (fe_lc (own := [("_law_pair", 4)]) rfl nd (fi_T K (x_ixT K (fv 0) fe_int)) (blkOk_by (N := N_lcome) (sc := defScope s_lcome) (by decide +kernel)) (by decide) (fun _ _ _ _ _ => (fg_name (i := 4) nd rfl (Or.inl rfl))) (fun _ _ _ _ _ => (fts_one (t_eqD K hu (x_ixT K (fv 4) fe_int) (x_ixT K (fv 1) fe_int)))) (fun _ _ _ _ _ => (fv 4))) (fe_lst fa_nil))))
fs_nil)
(fs_cons (fs_if (ft_not (ft_val (fe_cG c_lisa gd hr (by omega) (by rfl) (fa_cons (fv 0) (fa_cons fe_str fa_nil)))))
(fs_one (fs_ret (fe_lst fa_nil)))
fs_nil)
(fs_cons (fs_set (i := 2) nd rfl (Or.inl rfl) (fe_listEnum K rfl (by rfl) m_list b_list (by rfl) m_enumerate (fa_cons (x_ixT K (fv 0) fe_int) fa_nil)))
(fs_cons (fs_if (t_eqD K hu (x_ixT K (fv 1) fe_int) fe_str)
(fs_one (fs_ret (x_slL K (fv 2) (fo_some (x_ixT K (fv 1) fe_int)) (fo_some (x_add K (x_ixT K (fv 1) fe_int) fe_int)))))
fs_nil)
(fs_cons (fs_if (t_eqD K hu (x_ixT K (fv 1) fe_int) fe_str)
(fs_one (fs_ret (fv 2)))
fs_nil)
(fs_cons (fs_set (i := 3) nd rfl (Or.inr rfl) (x_repr K gd hu (by rfl) m_repr b_repr (fa_cons (fe_tup (fa_cons (x_ixT K (fv 1) fe_int) (fa_cons (x_ixT K (fv 1) fe_int) fa_nil))) fa_nil)))
(fs_one (fs_ret (fe_lc (own := [("_law_pair", 4)]) rfl nd (fi_L K (fv 2)) (blkOk_by (N := N_lcome) (sc := defScope s_lcome) (by decide +kernel)) (by decide) (fun _ _ _ _ _ => (fg_name (i := 4) nd rfl (Or.inl rfl))) (fun _ _ _ _ _ => (fts_one (PW.pt (fw_and (ft_val (fe_cG c_lisa gd hr (by omega) (by rfl) (fa_cons (x_ixT K (fv 4) fe_int) (fa_cons fe_str fa_nil)))) (fw_and1 (t_in K (fv 3) (fe_lc (own := [("_law_one", 5)]) rfl nd (fi_T K (x_ixT K (x_ixT K (fv 4) fe_int) fe_int)) (blkOk_by (by kernel_rfl)) (by decide) (fun _ _ _ _ _ => (fg_name (i := 5) nd rfl (Or.inl rfl))) (fun _ _ _ _ _ => fts_nil) (fun _ _ _ _ _ => (x_repr K gd hu (by rfl) m_repr b_repr (fa_cons (fv 5) fa_nil)))))))))) (fun _ _ _ _ _ => (fv 4)))))))))))))

end
end Fu

set_option Elab.async false
set_option linter.all false
set_option maxRecDepth 100000
set_option maxHeartbeats 4000000
namespace Fu
open PySem PySem.Spec PyProof.Rows L2 Dat LamX RZ
section
variable {P : Program} {w : World} {K : PySem.W.Frag} {mg : Str → Option Value} {base : Heap} {T : List (Addr × Str)}
theorem c_lfound (D : DefG K mg "_law_found" s_lfound) (c_lcome : CalG P w K mg base 2 "_law_come" (spF K T F_lcome) [])  : CalG P w K mg base 3 "_law_found" (spF K T F_lfound) [] :=
  (CalG.drop (calF (n := 2) (N := N_lfound) (ps := P_lfound) (B := B_lfound) D sc_lfound rfl (fun f fd F => F.binds fun _ _ _ _ _ _ us hl => match us, hl with | [_, _], _ => rfl) fun f cdv A outer s H E gd hr => by
    have nd := sc_lfound.nd
    have hu := hr.units
    have hu1 : _ + 1 < cLine := Nat.lt_of_le_of_lt (Nat.add_le_add_left (by decide : 1 ≤ 64) _) hu
    exact (fs_cons (fs_set (i := 2) nd rfl (Or.inl rfl) (fe_lst (fa_cons (fe_tup (fa_cons (fe_tup fa_nil) (fa_cons (fv 0) fa_nil))) fa_nil)))
(fs_cons (fs_for PassesOwn.never rfl (fi_T K (fv 1)) (fg_name (i := 3) nd rfl (Or.inl rfl))
(fs_cons (fs_set (i := 4) nd rfl (Or.inl rfl) (fe_lstM fa_nil))
(fs_cons (fs_for PassesOwn.never rfl (fi_L K (fv 2)) (fg_tup K (fgs_cons (fg_name (i := 5) nd rfl (Or.inr rfl)) (fgs_cons (fg_name (i := 6) nd rfl (Or.inl rfl)) fgs_nil)))
(fs_one (fs_expr (x_extend K (fv 4) (fa_cons (fe_lc (own := [("_law_marker", 7), ("_law_other", 8)]) rfl nd (fi_L K (fe_cG c_lcome gd hr (by omega) (by rfl) (fa_cons (fv 6) (fa_cons (fv 3) fa_nil)))) (blkOk_by (N := N_lfound) (sc := defScope s_lfound) (by decide +kernel)) (by decide) (fun _ _ _ _ _ => (fg_tup K (fgs_cons (fg_name (i := 7) nd rfl (Or.inl rfl)) (fgs_cons (fg_name (i := 8) nd rfl (Or.inl rfl)) fgs_nil)))) (fun _ _ _ _ _ => fts_nil) (fun _ _ _ _ _ => (fe_tup (fa_cons (x_catT K (fv 5) (fe_tup (fa_cons (fv 7) fa_nil))) (fa_cons (fv 8) fa_nil))))) fa_nil)))))
(fs_one (fs_set (i := 2) nd rfl (Or.inl rfl) (fv 4))))))
(fs_one (fs_ret (fv 2)))))))

theorem c_lat (D : DefG K mg "_law_at" s_lat) (c_lcome : CalG P w K mg base 2 "_law_come" (spF K T F_lcome) []) (m_isinstance : mg "isinstance" = none) (m_str : mg "str" = none) : CalG P w K mg base 3 "_law_at" (spF K T F_lat) [] :=
  (CalG.drop (calF (n := 2) (N := N_lat) (ps := P_lat) (B := B_lat) D sc_lat rfl (fun f fd F => F.binds fun _ _ _ _ _ _ us hl => match us, hl with | [_, _], _ => rfl) fun f cdv A outer s H E gd hr => by
    have nd := sc_lat.nd
    have hu := hr.units
    have hu1 : _ + 1 < cLine := Nat.lt_of_le_of_lt (Nat.add_le_add_left (by decide : 1 ≤ 64) _) hu
    exact (fs_cons (fs_set (i := 2) nd rfl (Or.inl rfl) (fe_lst (fa_cons (fv 0) fa_nil)))
(fs_cons (fs_for PassesOwn.never rfl (fi_T K (fv 1)) (fg_name (i := 3) nd rfl (Or.inl rfl))
(fs_cons (fs_set (i := 4) nd rfl (Or.inl rfl) (fe_if (ft_val (x_isinstance K (by rfl) m_isinstance b_isinstance (fa_cons (fv 3) (fa_cons (fe_ty (n := "str") (by rfl) m_str b_str) fa_nil)))) (fe_tup (fa_cons fe_str (fa_cons (fv 3) fa_nil))) (fe_tup (fa_cons fe_str (fa_cons (fv 3) fa_nil)))))
(fs_cons (fs_setLc (i := 2) (own := [("_law_pair", 5)]) rfl nd rfl rfl (sw_true rfl rfl rfl (by decide +kernel)) (fi_L K (fe_cG c_lcome gd hr (by omega) (by rfl) (fa_cons (x_ixL K (fv 2) fe_int) (fa_cons (fv 4) fa_nil)))) (blkOk_by (N := N_lat) (sc := defScope s_lat) (by decide +kernel)) (by decide) (fun _ _ _ _ _ => (fg_name (i := 5) nd rfl (Or.inl rfl))) (fun _ _ _ _ _ => fts_nil) (fun _ _ _ _ _ => (x_ixT K (fv 5) fe_int)))
(fs_one (fs_if (t_eqD K hu (fv 2) (fe_lst fa_nil))
(fs_one (fs_ret (fe_lst fa_nil)))
fs_nil)))))
(fs_one (fs_ret (fv 2)))))))

theorem c_lplaces (D : DefG K mg "_law_places" s_lplaces) (c_ldraw : CalG P w K mg base 1 "_law_draw" (spF K T F_ldraw) []) (m_len : mg "len" = none) : CalG P w K mg base 2 "_law_places" (spF K T F_lplaces) [] :=
  (CalG.drop (calF (n := 2) (N := N_lplaces) (ps := P_lplaces) (B := B_lplaces) D sc_lplaces rfl (fun f fd F => F.binds fun _ _ _ _ _ _ us hl => match us, hl with | [_, _], _ => rfl) fun f cdv A outer s H E gd hr => by
    have nd := sc_lplaces.nd
    have hu := hr.units
    have hu1 : _ + 1 < cLine := Nat.lt_of_le_of_lt (Nat.add_le_add_left (by decide : 1 ≤ 64) _) hu
    exact (fs_cons (fs_set (i := 2) nd rfl (Or.inl rfl) (fe_lstM (fa_cons (fv 1) (fa_cons (x_slT K (fv 1) (fo_some fe_int) fo_none) (fa_cons (x_slT K (fv 1) fo_none (fo_some (fe_neg fe_int))) (fa_cons (x_catT K (fv 1) (fe_tup (fa_cons fe_int fa_nil))) (fa_cons (x_catT K (fv 1) (fe_tup (fa_cons fe_str fa_nil))) (fa_cons (x_mulT K (fv 1) fe_int) (fa_cons (fe_tup fa_nil) (fa_cons (fe_tup (fa_cons fe_int fa_nil)) (fa_cons (fe_tup (fa_cons fe_str fa_nil)) (fa_cons (fe_tup (fa_cons fe_str (fa_cons fe_int fa_nil))) fa_nil))))))))))))
(fs_cons (fs_if (t_neD K hu (fv 1) (fe_tup fa_nil))
(fs_cons (fs_set (i := 3) nd rfl (Or.inl rfl) (fe_cG c_ldraw gd hr (by omega) (by rfl) (fa_cons (fv 0) (fa_cons (x_len K (by rfl) m_len b_len (fa_cons (fv 1) fa_nil)) fa_nil))))
(fs_one (fs_for PassesOwn.never rfl (fi_T K (fe_tup (fa_cons fe_int (fa_cons fe_int (fa_cons fe_int (fa_cons fe_str (fa_cons fe_str (fa_cons (x_pow K fe_int fe_int) fa_nil)))))))) (fg_name (i := 4) nd rfl (Or.inl rfl))
(fs_one (fs_expr (x_append K (fv 2) (fa_cons (x_catT K (x_catT K (x_slT K (fv 1) fo_none (fo_some (fv 3))) (fe_tup (fa_cons (fv 4) fa_nil))) (x_slT K (fv 1) (fo_some (x_add K (fv 3) fe_int)) fo_none)) fa_nil)))))))
fs_nil)
(fs_one (fs_ret (fv 2)))))))

end
end Fu

set_option Elab.async false
set_option linter.all false
set_option maxRecDepth 100000
set_option maxHeartbeats 4000000
namespace Fu
open PySem PySem.Spec PyProof.Rows L2 Dat LamX RZ
section
variable {P : Program} {w : World} {K : PySem.W.Frag} {mg : Str → Option Value} {base : Heap} {T : List (Addr × Str)}
theorem fnF {x : Str} {st : Stmt} {f : Addr} {fd : FuncData} {N ps : List Str} {k n : Nat} {B : Fst} (F : Fun K x x st f fd) (S : FnScope N ps (defScope st)) (hn : ps.length = n)
    (body : ∀ (cdv : Value) (A : Around) (outer : List Env) (s : Shared) (H : Hp) (E : XK), Gd A → Room k (A.deeper (envOfC x (defScope st) s.heap.objs.size f cdv)) →
      PSs (cxOf CX0 P w K mg base N x (defScope st) f cdv A outer s H E).nox (defBody st) (tS K T B)) : FnG P w K mg base (k + 1) f fd ps (spF K T (fnOf n N.length B)) :=
  fnG F S (fun vs H Q E h => by rw [hn]; exact (fn_go h).1) fun cdv A outer s H vs Q E gd hr h => ⟨_, body cdv A outer s H E gd hr, (fn_go h).2⟩
theorem fn_law {fL : Addr} {fdL : FuncData} (FL : Fun K "law" "law" s_law fL fdL) (c_foundin : CalG P w K mg base 18 "found_in" (spF K T F_foundin) []) (c_lat : CalG P w K mg base 3 "_law_at" (spF K T F_lat) []) (c_ldocument : CalG P w K mg base 9 "_law_document" (spF K T F_ldocument) []) (c_lfeed : CalG P w K mg base 1 "_law_feed" (spF K T F_lfeed) []) (c_lfound : CalG P w K mg base 3 "_law_found" (spF K T F_lfound) []) (c_lpath : CalG P w K mg base 4 "_law_path" (spF K T F_lpath) []) (c_lplaces : CalG P w K mg base 2 "_law_places" (spF K T F_lplaces) []) (c_lplain : CalG P w K mg base 2 "_law_plain" (spF K T F_lplain) []) (c_valueat : CalG P w K mg base 3 "value_at" (spF K T F_valueat) []) (m_range : mg "range" = none) (m_repr : mg "repr" = none) (m_tuple : mg "tuple" = none) : FnG P w K mg base 19 fL fdL P_law (spF K T F_law) :=
  FnG.weak (fnF (n := 1) (N := N_law) (ps := P_law) (B := B_law) FL sc_law rfl fun cdv A outer s H E gd hr => by
    have nd := sc_law.nd
    have hu := hr.units
    have hu1 : _ + 1 < cLine := Nat.lt_of_le_of_lt (Nat.add_le_add_left (by decide : 1 ≤ 64) _) hu
    exact (fs_cons (fs_set (i := 1) nd rfl (Or.inl rfl) (fe_cG c_lfeed gd hr (by omega) (by rfl) (fa_cons (fv 0) fa_nil)))
(fs_cons (fs_for PassesOwn.never rfl (fi_R1 rfl m_range (fa_cons fe_int fa_nil)) (fg_name (i := 2) nd rfl (Or.inl rfl))
(fs_cons (fs_set (i := 3) nd rfl (Or.inl rfl) (fe_cG c_ldocument gd hr (by omega) (by rfl) (fa_cons (fv 1) fa_nil)))
(fs_cons (fs_set (i := 4) nd rfl (Or.inl rfl) (x_catL K (x_catL K (fe_lst (fa_cons (fv 3) fa_nil)) (fe_lc (own := [("_law_pair", 18)]) rfl nd (fi_T K (x_ixT K (fv 3) fe_int)) (blkOk_by (N := N_law) (sc := defScope s_law) (by decide +kernel)) (by decide) (fun _ _ _ _ _ => (fg_name (i := 18) nd rfl (Or.inl rfl))) (fun _ _ _ _ _ => fts_nil) (fun _ _ _ _ _ => (x_ixT K (fv 18) fe_int)))) (fe_lst (fa_cons (fe_cG c_lplain gd hr (by omega) (by rfl) (fa_cons (fv 1) fa_nil)) fa_nil))))
(fs_cons (fs_for PassesOwn.never rfl (fi_L K (fv 4)) (fg_name (i := 5) nd rfl (Or.inl rfl))
(fs_cons (fs_set (i := 6) nd rfl (Or.inl rfl) (x_repr K gd hu (by rfl) m_repr b_repr (fa_cons (fv 5) fa_nil)))
(fs_cons (fs_for PassesOwn.never rfl (fi_R1 rfl m_range (fa_cons fe_int fa_nil)) (fg_name (i := 7) nd rfl (Or.inl rfl))
(fs_cons (fs_set (i := 8) nd rfl (Or.inl rfl) (fe_cG c_lpath gd hr (by omega) (by rfl) (fa_cons (fv 1) (fa_cons (fv 5) (fa_cons fe_int fa_nil)))))
(fs_cons (fs_par (i := 9) (j := 10) rfl nd rfl rfl (by decide) rfl rfl (fa_cons (x_tuple K (by rfl) m_tuple b_tuple (fa_cons (fe_cG c_lfound gd hr (by omega) (by rfl) (fa_cons (fv 5) (fa_cons (fv 8) fa_nil))) fa_nil)) (fa_cons (x_repr K gd hu (by rfl) m_repr b_repr (fa_cons (fv 8) fa_nil)) fa_nil)) rfl)
(fs_cons (fs_if (PW.pt (fw_or (t_neS K (x_repr K gd hu (by rfl) m_repr b_repr (fa_cons (fe_cG c_foundin gd hr (by omega) (by rfl) (fa_cons (fv 5) (fa_cons (fv 8) fa_nil))) fa_nil)) (x_repr K gd hu (by rfl) m_repr b_repr (fa_cons (fv 9) fa_nil))) (fw_or1 (t_neS K (x_repr K gd hu (by rfl) m_repr b_repr (fa_cons (fv 8) fa_nil)) (fv 10)))))
(fs_one (fs_ret fe_bl))
fs_nil)
(fs_one (fs_for PassesOwn.never rfl (fi_L K (fe_cG c_lplaces gd hr (by omega) (by rfl) (fa_cons (fv 1) (fa_cons (x_ixT K (x_ixT K (x_catT K (fv 9) (fe_tup (fa_cons (fe_tup (fa_cons (fe_tup fa_nil) (fa_cons fe_non fa_nil))) fa_nil))) fe_int) fe_int) fa_nil)))) (fg_name (i := 11) nd rfl (Or.inl rfl))
(fs_cons (fs_set (i := 12) nd rfl (Or.inl rfl) (x_ixL K (x_catL K (fe_cG c_lat gd hr (by omega) (by rfl) (fa_cons (fv 5) (fa_cons (fv 11) fa_nil))) (fe_lst (fa_cons fe_non fa_nil))) fe_int))
(fs_one (fs_if (t_neS K (x_repr K gd hu (by rfl) m_repr b_repr (fa_cons (fe_cG c_valueat gd hr (by omega) (by rfl) (fa_cons (fv 5) (fa_cons (fv 11) fa_nil))) fa_nil)) (x_repr K gd hu (by rfl) m_repr b_repr (fa_cons (fv 12) fa_nil)))
(fs_one (fs_ret fe_bl))
fs_nil)))))))))
(fs_one (fs_if (t_neS K (x_repr K gd hu (by rfl) m_repr b_repr (fa_cons (fv 5) fa_nil)) (fv 6))
(fs_one (fs_ret fe_bl))
fs_nil)))))
(fs_one (fs_for PassesOwn.never rfl (fi_T K (x_ixT K (fv 3) fe_int)) (fg_tup K (fgs_cons (fg_name (i := 13) nd rfl (Or.inl rfl)) (fgs_cons (fg_name (i := 14) nd rfl (Or.inl rfl)) fgs_nil)))
(fs_one (fs_for PassesOwn.never rfl (fi_T K (fe_tup (fa_cons (fe_tup (fa_cons fe_str fa_nil)) (fa_cons (fe_tup (fa_cons fe_str (fa_cons fe_int fa_nil))) (fa_cons (fe_tup (fa_cons fe_str (fa_cons (x_pow K fe_int fe_int) fa_nil))) (fa_cons (fe_tup (fa_cons fe_str (fa_cons fe_str fa_nil))) (fa_cons (fe_tup (fa_cons fe_str (fa_cons fe_str (fa_cons fe_int fa_nil)))) (fa_cons (fe_tup (fa_cons fe_str (fa_cons fe_str (fa_cons fe_str fa_nil)))) fa_nil)))))))) (fg_name (i := 15) nd rfl (Or.inl rfl))
(fs_cons (fs_set (i := 8) nd rfl (Or.inl rfl) (fe_tup (fa_cons (fe_tup (fa_cons fe_str (fa_cons (fv 13) fa_nil))) (fa_cons (fv 15) fa_nil))))
(fs_one (fs_if (t_neS K (x_repr K gd hu (by rfl) m_repr b_repr (fa_cons (fe_cG c_foundin gd hr (by omega) (by rfl) (fa_cons (fv 3) (fa_cons (fv 8) fa_nil))) fa_nil)) (x_repr K gd hu (by rfl) m_repr b_repr (fa_cons (x_tuple K (by rfl) m_tuple b_tuple (fa_cons (fe_cG c_lfound gd hr (by omega) (by rfl) (fa_cons (fv 3) (fa_cons (fv 8) fa_nil))) fa_nil)) fa_nil)))
(fs_one (fs_ret fe_bl))
fs_nil)))))))))))
(fs_cons (fs_set (i := 16) nd rfl (Or.inl rfl) (fe_tup (fa_cons fe_str (fa_cons (fe_tup (fa_cons (fe_tup (fa_cons fe_str (fa_cons (fe_tup (fa_cons fe_str (fa_cons (fe_tupRg rfl (by rfl) m_tuple rfl m_range fe_int) fa_nil))) fa_nil))) fa_nil)) fa_nil))))
(fs_cons (fs_set (i := 17) nd rfl (Or.inl rfl) (fe_tup (fa_cons fe_str (fa_cons (fe_tup (fa_cons (fe_tup (fa_cons fe_str (fa_cons (fe_tup (fa_cons fe_str (fa_cons (x_mulT K (fe_tup (fa_cons (fe_tup (fa_cons fe_str (fa_cons (fe_tup (fa_cons (fe_tup (fa_cons fe_str (fa_cons fe_int fa_nil))) fa_nil)) fa_nil))) fa_nil)) fe_int) fa_nil))) fa_nil))) fa_nil)) fa_nil))))
(fs_cons (fs_for PassesOwn.never rfl (fi_T K (fe_tup (fa_cons (fe_tup (fa_cons fe_str fa_nil)) (fa_cons (fe_tup (fa_cons fe_str (fa_cons fe_int fa_nil))) (fa_cons (fe_tup (fa_cons fe_str (fa_cons fe_int fa_nil))) (fa_cons (fe_tup (fa_cons fe_str (fa_cons fe_str (fa_cons fe_int fa_nil)))) fa_nil)))))) (fg_name (i := 15) nd rfl (Or.inl rfl))
(fs_one (fs_for PassesOwn.never rfl (fi_T K (fe_tup (fa_cons (fv 16) (fa_cons (fv 17) fa_nil)))) (fg_name (i := 14) nd rfl (Or.inl rfl))
(fs_cons (fs_set (i := 8) nd rfl (Or.inl rfl) (fe_tup (fa_cons (fe_tup (fa_cons fe_str (fa_cons fe_str fa_nil))) (fa_cons (fv 15) fa_nil))))
(fs_one (fs_if (t_neS K (x_repr K gd hu (by rfl) m_repr b_repr (fa_cons (fe_cG c_foundin gd hr (by omega) (by rfl) (fa_cons (fv 14) (fa_cons (fv 8) fa_nil))) fa_nil)) (x_repr K gd hu (by rfl) m_repr b_repr (fa_cons (x_tuple K (by rfl) m_tuple b_tuple (fa_cons (fe_cG c_lfound gd hr (by omega) (by rfl) (fa_cons (fv 14) (fa_cons (fv 8) fa_nil))) fa_nil)) fa_nil)))
(fs_one (fs_ret fe_bl))
fs_nil))))))
(fs_one (fs_ret fe_bl)))))))) fun vs H Q E h => drop_go h

end
end Fu

set_option Elab.async false
set_option linter.all false
set_option maxRecDepth 100000
set_option maxHeartbeats 1000000
/-! Reasoning about the functions alone: what a run gives. -/
namespace Fu
open PySem PySem.Spec PyProof.Rows L2 Dat LamX
theorem on_bindI {α β : Type} {r : Res α} {k : α → Sto → Res β} {p : β → Sto → Prop} : (r.bind k).on p ↔ r.on fun a M => (k a M).on p := by
  cases r <;> rfl
theorem on_okI {α : Type} {a : α} {M : Sto} {p : α → Sto → Prop} : (Res.ok a M).on p ↔ p a M := Iff.rfl
theorem on_badI {α : Type} {p : α → Sto → Prop} : (Res.bad : Res α).on p ↔ False := Iff.rfl
theorem on_imp {α : Type} {r : Res α} {p q : α → Sto → Prop} (h : r.on p) (i : ∀ a M, p a M → q a M) : r.on q := by
  cases r with
  | ok a M => exact i a M h
  | ex _ _ => exact h
  | bad => exact h
theorem on_eq {α : Type} {r : Res α} {p : α → Sto → Prop} (h : r.on p) : ∃ a M, r = .ok a M ∧ p a M := by
  cases r with
  | ok a M => exact ⟨a, M, rfl, h⟩
  | ex _ _ => exact h.elim
  | bad => exact h.elim
def Out.on (o : Out) (nx : Slo → Sto → Prop) (rt : Wv → Sto → Prop) : Prop := match o with
  | .nx sd M => nx sd M
  | .rt w M => rt w M
  | _ => False
theorem onO_nx {sd : Slo} {M : Sto} {nx : Slo → Sto → Prop} {rt : Wv → Sto → Prop} : (Out.nx sd M).on nx rt ↔ nx sd M := Iff.rfl
theorem onO_rt {w : Wv} {M : Sto} {nx : Slo → Sto → Prop} {rt : Wv → Sto → Prop} : (Out.rt w M).on nx rt ↔ rt w M := Iff.rfl
theorem onO_bad {nx : Slo → Sto → Prop} {rt : Wv → Sto → Prop} : Out.bad.on nx rt ↔ False := Iff.rfl
theorem onO_out {α : Type} {r : Res α} {k : α → Sto → Out} {nx : Slo → Sto → Prop} {rt : Wv → Sto → Prop} : (r.out k).on nx rt ↔ r.on fun a M => (k a M).on nx rt := by
  cases r <;> rfl
theorem onO_ite {c : Prop} [Decidable c] {x y : Out} {nx : Slo → Sto → Prop} {rt : Wv → Sto → Prop} : (if c then x else y).on nx rt ↔ if c then x.on nx rt else y.on nx rt := by
  split <;> rfl
theorem on_ite {α : Type} {c : Prop} [Decidable c] {x y : Res α} {p : α → Sto → Prop} : (if c then x else y).on p ↔ if c then x.on p else y.on p := by
  split <;> rfl
theorem onO_imp {o : Out} {nx nx' : Slo → Sto → Prop} {rt rt' : Wv → Sto → Prop} (h : o.on nx rt) (h1 : ∀ sd M, nx sd M → nx' sd M) (h2 : ∀ w M, rt w M → rt' w M) : o.on nx' rt' := by
  cases o with
  | nx sd M => exact h1 _ _ h
  | rt w M => exact h2 _ _ h
  | bk _ _ => exact h
  | ct _ _ => exact h
  | ex _ _ => exact h
  | bad => exact h
section
variable {sd : Slo} {M : Sto} {nx : Slo → Sto → Prop} {rt : Wv → Sto → Prop} {f g : Fst}
theorem onO_seq : (fSeq f g sd M).on nx rt ↔ (f sd M).on (fun sd1 M1 => (g sd1 M1).on nx rt) rt := by
  unfold fSeq
  cases f sd M <;> rfl
theorem onO_skip : (fSkip sd M).on nx rt ↔ nx sd M := Iff.rfl
theorem onO_if {c : Ft} : (fIfS c f g sd M).on nx rt ↔ (c sd M).on fun b M1 => if b = true then (f sd M1).on nx rt else (g sd M1).on nx rt := by
  unfold fIfS
  rw [onO_out]
  simp only [onO_ite]
theorem onO_ret {f : Fx} : (fRet f sd M).on nx rt ↔ (f sd M).on rt := by
  unfold fRet
  rw [onO_out]
  rfl
theorem onO_set {i : Nat} {f : Fx} : (fSet i f sd M).on nx rt ↔ (f sd M).on fun w M1 => nx (sd.set i (some w)) M1 := by
  unfold fSet
  rw [onO_out]
  rfl
theorem onO_ex {f : Fx} : (fEx f sd M).on nx rt ↔ (f sd M).on fun w M1 => nx sd M1 := by
  unfold fEx
  rw [onO_out]
  rfl
theorem onO_for {it : Fi} {g : Tg} {b : Fst} : (fFor it g b sd M).on nx rt ↔ (it sd M).on fun I M1 => (forL I.gd g b I.its sd M1).on nx rt := by
  unfold fFor
  rw [onO_out]
end
/-- a loop -/
theorem for_on {gd : Option (Nat × List Wv)} {g : Tg} {b : Fst} {its : List Itm} {nx : Slo → Sto → Prop} {rt : Wv → Sto → Prop} (Inv : Nat → Slo → Sto → Prop)
    (st : ∀ i it sd M, its[i]? = some it → Inv i sd M → okG gd M ∧ ∃ sd1, bindT g it sd = some sd1 ∧ (b sd1 M).on (Inv (i + 1)) rt) (fin : ∀ sd M, Inv its.length sd M → okG gd M ∧ nx sd M)
    {sd : Slo} {M : Sto} (h0 : Inv 0 sd M) : (forL gd g b its sd M).on nx rt := by
  have key : ∀ (k : Nat) (sd : Slo) (M : Sto), k ≤ its.length → Inv (its.length - k) sd M → (forL gd g b (its.drop (its.length - k)) sd M).on nx rt := by
    intro k
    induction k with
    | zero =>
      intro sd M _ h
      rw [Nat.sub_zero] at h ⊢
      rw [List.drop_length]
      obtain ⟨o, n⟩ := fin sd M h
      simp only [forL]
      rw [if_pos o]
      exact n
    | succ k ih =>
      intro sd M hk h
      have hl : its.length - (k + 1) < its.length := by omega
      rw [List.drop_eq_getElem_cons hl]
      obtain ⟨o, sd1, e, r⟩ := st _ its[its.length - (k + 1)] sd M (List.getElem?_eq_getElem hl) h
      simp only [forL]
      rw [if_pos o, e]
      dsimp only
      have es : its.length - (k + 1) + 1 = its.length - k := by omega
      rw [es] at r ⊢
      cases q : b sd1 M with
      | nx sd2 M2 => rw [q] at r; exact ih sd2 M2 (by omega) r
      | rt w M2 => rw [q] at r; exact r
      | bk _ _ => rw [q] at r; exact r.elim
      | ct _ _ => rw [q] at r; exact r.elim
      | ex _ _ => rw [q] at r; exact r.elim
      | bad => rw [q] at r; exact r.elim
  have := key its.length sd M (Nat.le_refl _) (by rw [Nat.sub_self]; exact h0)
  rw [Nat.sub_self, List.drop_zero] at this
  exact this
/-- a comprehension's loop -/
theorem lc_on {gd : Option (Nat × List Wv)} {g : Tg} {t : Ft} {f : Fx} {sd : Slo} {its : List Itm} {p : List PyData → Sto → Prop} (Inv : Nat → Sto → List PyData → Prop)
    (st : ∀ i it M acc, its[i]? = some it → Inv i M acc → okG gd M ∧ ∃ sd1, bindT g it sd = some sd1 ∧ (t sd1 M).on fun c M1 => if c = true then (f sd1 M1).on fun w M2 => ∃ d, w = .d d ∧ acc.length < sizeLine ∧ Inv (i + 1) M2 (acc ++ [d]) else Inv (i + 1) M1 acc)
    (fin : ∀ M acc, Inv its.length M acc → okG gd M ∧ p acc M) {M : Sto} {acc : List PyData} (h0 : Inv 0 M acc) : (lcL gd g t f sd its M acc).on p := by
  have key : ∀ (k : Nat) (M : Sto) (acc : List PyData), k ≤ its.length → Inv (its.length - k) M acc → (lcL gd g t f sd (its.drop (its.length - k)) M acc).on p := by
    intro k
    induction k with
    | zero =>
      intro M acc _ h
      rw [Nat.sub_zero] at h ⊢
      rw [List.drop_length]
      obtain ⟨o, n⟩ := fin M acc h
      simp only [lcL]
      rw [if_pos o]
      exact n
    | succ k ih =>
      intro M acc hk h
      have hl : its.length - (k + 1) < its.length := by omega
      rw [List.drop_eq_getElem_cons hl]
      obtain ⟨o, sd1, e, r⟩ := st _ its[its.length - (k + 1)] M acc (List.getElem?_eq_getElem hl) h
      simp only [lcL]
      rw [if_pos o, e]
      dsimp only
      have es : its.length - (k + 1) + 1 = its.length - k := by omega
      rw [es] at r ⊢
      rw [on_bindI]
      refine on_imp r fun c M1 h1 => ?_
      by_cases hc : c = true
      · rw [if_pos hc] at h1 ⊢
        rw [on_bindI]
        refine on_imp h1 fun w M2 ⟨d, e2, hz, iv⟩ => ?_
        subst e2
        dsimp only
        rw [if_pos hz]
        exact ih M2 _ (by omega) iv
      · rw [if_neg hc] at h1 ⊢
        exact ih M1 acc (by omega) h1
  have := key its.length M acc (Nat.le_refl _) (by rw [Nat.sub_self]; exact h0)
  rw [Nat.sub_self, List.drop_zero] at this
  exact this

/-! ### flat stores -/
def Ob.fl : Ob → Prop
  | .lst ws => ∀ w ∈ ws, ∃ d, w = .d d
  | .dct kvs => ∀ q ∈ kvs, ∃ d, q.2 = .d d
  | .lk kvs => ∀ q ∈ kvs, ∃ d, q.2 = .d d
def Flat (M : Sto) : Prop := ∀ o ∈ M, o.fl
theorem Ob.fl.low {o : Ob} (h : o.fl) (n : Nat) : o.low n = true := by
  cases o with
  | lst ws =>
    simp only [Ob.low, List.all_eq_true]
    intro w hw
    obtain ⟨d, rfl⟩ := h w hw
    rfl
  | dct kvs =>
    simp only [Ob.low, List.all_eq_true]
    intro w hw
    obtain ⟨d, e⟩ := h w hw
    rw [e]; rfl
  | lk kvs =>
    simp only [Ob.low, List.all_eq_true]
    intro w hw
    obtain ⟨d, e⟩ := h w hw
    rw [e]; rfl
theorem Flat.set {M : Sto} (h : Flat M) {i : Nat} {o : Ob} (ho : o.fl) : Flat (M.set i o) := fun u hu => by
  rcases List.mem_or_eq_of_mem_set hu with z | z
  · exact h u z
  · rw [z]; exact ho
theorem Flat.app {M : Sto} (h : Flat M) {o : Ob} (ho : o.fl) : Flat (M ++ [o]) := fun u hu => by
  rcases List.mem_append.mp hu with z | z
  · exact h u z
  · rw [List.mem_singleton.mp z]; exact ho
theorem Flat.take {M : Sto} (h : Flat M) (n : Nat) : Flat (M.take n) := fun u hu => h u (List.mem_of_mem_take hu)
theorem Flat.at {M : Sto} (h : Flat M) {i : Nat} {o : Ob} (e : M[i]? = some o) : o.fl := h o (List.mem_of_getElem? e)
/-- what one that forgets what is new must give -/
def DropP (M : Sto) (p : Wv → Sto → Prop) (w : Wv) (M' : Sto) : Prop := ∃ d, frzW M.length M' w = some (.d d) ∧ M.length ≤ M'.length ∧ Flat M' ∧ p (.d d) (M'.take M.length)
/-- one that forgets what is new -/
theorem drop_on {F : Fn} {ws : List Wv} {M : Sto} {p : Wv → Sto → Prop} (h : (F ws M).on (DropP M p)) : (dropF F ws M).on p := by
  obtain ⟨w, M', e, d, e2, hl, fl, q⟩ := on_eq h
  unfold dropF
  rw [e]
  dsimp only
  have c : (decide (M.length ≤ M'.length) && (M'.take M.length).all (Ob.low M.length)) = true := by
    rw [Bool.and_eq_true, decide_eq_true_eq, List.all_eq_true]
    exact ⟨hl, fun o ho => Ob.fl.low (fl o (List.mem_of_mem_take ho)) _⟩
  rw [if_pos c, e2]
  exact q
/-- what isn't in S stays -/
structure Fr (S : List Nat) (M M' : Sto) : Prop where
  len : M'.length = M.length
  at_ : ∀ j, j ∉ S → M'[j]? = M[j]?
theorem Fr.refl (S : List Nat) (M : Sto) : Fr S M M := ⟨rfl, fun _ _ => rfl⟩
theorem Fr.trans {S : List Nat} {M M1 M2 : Sto} (a : Fr S M M1) (b : Fr S M1 M2) : Fr S M M2 := ⟨b.len.trans a.len, fun j h => (b.at_ j h).trans (a.at_ j h)⟩
theorem Fr.wide {S S' : List Nat} {M M1 : Sto} (a : Fr S M M1) (h : ∀ x ∈ S, x ∈ S') : Fr S' M M1 := ⟨a.len, fun j n => a.at_ j fun z => n (h j z)⟩
theorem Fr.set {S : List Nat} {M : Sto} {i : Nat} {o : Ob} (h : i ∈ S) : Fr S M (M.set i o) := ⟨List.length_set, fun j n => by
  rw [List.getElem?_set_ne]
  intro z
  exact n (z ▸ h)⟩
theorem Fr.get {S : List Nat} {M M' : Sto} (a : Fr S M M') {i : Nat} {o : Ob} (h : M[i]? = some o) (n : i ∉ S) : M'[i]? = some o := (a.at_ i n).trans h
theorem at_new {M : Sto} {o : Ob} : (M ++ [o])[M.length]? = some o := by simp
theorem at_old {M : Sto} {o u : Ob} {i : Nat} (h : M[i]? = some u) : (M ++ [o])[i]? = some u := by
  rw [List.getElem?_append_left (List.getElem?_eq_some_iff.mp h).1]
  exact h
theorem at_lt {M : Sto} {u : Ob} {i : Nat} (h : M[i]? = some u) : i < M.length := (List.getElem?_eq_some_iff.mp h).1
/-- an extension, taken back -/
theorem Fr.back {S : List Nat} {M M1 M2 : Sto} {more : Sto} (a : Fr S (M ++ more) M2) (h : ∀ x ∈ S, x < M.length → x ∈ S) : Fr S M (M2.take M.length) := by
  refine ⟨by rw [List.length_take, a.len, List.length_append]; omega, fun j n => ?_⟩
  by_cases hj : j < M.length
  · rw [List.getElem?_take_of_lt hj, a.at_ j n, List.getElem?_append_left hj]
  · rw [List.getElem?_eq_none (by rw [List.length_take]; omega), List.getElem?_eq_none (by omega)]
theorem Fr.back' {S S' : List Nat} {M M2 : Sto} {more : Sto} (a : Fr S (M ++ more) M2) (h : ∀ x ∈ S, x < M.length → x ∈ S') : Fr S' M (M2.take M.length) := by
  refine ⟨by rw [List.length_take, a.len, List.length_append]; omega, fun j n => ?_⟩
  by_cases hj : j < M.length
  · rw [List.getElem?_take_of_lt hj, a.at_ j (fun z => n (h j z hj)), List.getElem?_append_left hj]
  · rw [List.getElem?_eq_none (by rw [List.length_take]; omega), List.getElem?_eq_none (by omega)]
theorem fn_on {n m : Nat} {B : Fst} {ws : List Wv} {M : Sto} {p : Wv → Sto → Prop} (hl : ws.length = n) (h : (B (ws.map some ++ List.replicate (m - n) none) M).on (fun _ M' => p (.d .none) M') p) : (fnOf n m B ws M).on p := by
  unfold fnOf
  rw [if_pos hl]
  cases q : B (ws.map some ++ List.replicate (m - n) none) M <;> rw [q] at h
  · exact h
  · exact h
  · exact h.elim
  · exact h.elim
  · exact h.elim
  · exact h.elim
end Fu

set_option Elab.async false
set_option linter.all false
set_option maxRecDepth 100000
set_option maxHeartbeats 1000000
/-! The draws. -/
namespace Fu
open PySem PySem.Spec PyProof.Rows L2 Dat LamX
theorem onT {p : Wv → Sto → Prop} {f : Fx} {sd : Slo} {M : Sto} {q : Bool → Sto → Prop} : (fTest f sd M).on q ↔ (f sd M).on fun w M1 => ∃ b, w = .d (.bool b) ∧ q b M1 := by
  unfold fTest
  rw [on_bindI]
  cases f sd M with
  | ok w M1 =>
    show (match w with | .d (.bool b) => Res.ok b M1 | _ => .bad : Res Bool).on q ↔ _
    constructor
    · intro h
      split at h
      · exact ⟨_, rfl, h⟩
      · exact h.elim
    · rintro ⟨b, rfl, h⟩
      exact h
  | ex _ _ => rfl
  | bad => rfl
section
variable {M : Sto} {i j : Int}
theorem e_add : oAdd (.d (.int i)) (.d (.int j)) M = .ok (.d (.int (i + j))) M := rfl
theorem e_sub : oSub (.d (.int i)) (.d (.int j)) M = .ok (.d (.int (i - j))) M := rfl
theorem e_lt : oLt (.d (.int i)) (.d (.int j)) M = .ok (.d (.bool (decide (i < j)))) M := rfl
theorem e_le : oLe (.d (.int i)) (.d (.int j)) M = .ok (.d (.bool (decide (i ≤ j)))) M := rfl
theorem e_gt : oGt (.d (.int i)) (.d (.int j)) M = .ok (.d (.bool (decide (j < i)))) M := rfl
theorem e_ge : oGe (.d (.int i)) (.d (.int j)) M = .ok (.d (.bool (decide (j ≤ i)))) M := rfl
theorem e_mod (h : 0 < j) : oMod (.d (.int i)) (.d (.int j)) M = .ok (.d (.int (i % j))) M := by
  simp only [oMod, oIC, h, decide_true, if_true]
theorem e_fdiv (h : 0 < j) (h2 : j < 1073741824) : oFdiv (.d (.int i)) (.d (.int j)) M = .ok (.d (.int (i / j))) M := by
  simp only [oFdiv, oIC, h, h2, and_self, decide_true, if_true]
theorem e_eqI : oEqS false (.d (.int i)) (.d (.int j)) M = .ok (.d (.bool (i == j))) M := rfl
theorem e_eqB {a b : Bool} : oEqS false (.d (.bool a)) (.d (.bool b)) M = .ok (.d (.bool (a == b))) M := rfl
theorem e_neI : oEqS true (.d (.int i)) (.d (.int j)) M = .ok (.d (.bool !(i == j))) M := rfl
theorem e_neT {a b : Str} : oEqS true (.d (.str a)) (.d (.str b)) M = .ok (.d (.bool !(a == b))) M := rfl
theorem e_lenL {ds : List PyData} : oLen [.d (.list ds)] M = .ok (.d (.int (ds.length : Nat))) M := by
  simp [oLen, sqv, lsv]
theorem e_lenT {ds : List PyData} : oLen [.d (.tuple ds)] M = .ok (.d (.int (ds.length : Nat))) M := by
  simp [oLen, sqv]
theorem e_neD {a b : PyData} (h : (SeqAt.shaped a && SeqAt.shaped b) = true) : oEqD true (.d a) (.d b) M = .ok (.d (.bool !PyData.eqv a b)) M := by
  simp only [oEqD, dataOf, h, if_true]
theorem e_eqD {a b : PyData} (h : (SeqAt.shaped a && SeqAt.shaped b) = true) : oEqD false (.d a) (.d b) M = .ok (.d (.bool (PyData.eqv a b))) M := by
  simp only [oEqD, dataOf, h, if_true, Bool.false_eq_true, if_false]
theorem e_mulL (h : -(2 ^ 64) < i) (h2 : i < 2 ^ 64) : oMul (.d (.int i)) (.d (.int j)) M = .ok (.d (.int (i * j))) M := by
  simp only [oMul, oIC, h, h2, and_self, decide_true, Bool.true_or, if_true]
theorem e_pow5 (h : i.natAbs < 2 ^ 64) : oPow (.d (.int i)) (.d (.int 5)) M = .ok (.d (.int (i ^ 5))) M := by
  have e : decide (0 ≤ (5 : Int) ∧ (5 : Int) ≤ 1000000 ∧ i.natAbs < 2 ^ 64) = true := decide_eq_true ⟨by decide, by decide, h⟩
  simp only [oPow, oIC, e, if_true]
  rfl
theorem e_pow18 : oPow (.d (.int 10)) (.d (.int 18)) M = .ok (.d (.int (10 ^ 18))) M := rfl
theorem ixN43 : ixN 4 3 = some 3 := rfl
theorem ixN42 : ixN 4 2 = some 2 := rfl
theorem ixN41 : ixN 4 1 = some 1 := rfl
theorem ixN10 : ixN 1 0 = some 0 := rfl
end
/-- how far the feed at f is: at most n draws -/
def Feed (M : Sto) (f n : Nat) : Prop := ∃ (ns : List Int) (i l c : Int), M[f]? = some (.lst [.d (.list (ns.map PyData.int)), .d (.int i), .d (.int l), .d (.int c)]) ∧ ns.length ≤ 63 ∧ 0 ≤ i ∧ 0 ≤ l ∧ 0 ≤ c ∧ c ≤ n
theorem Feed.up {M : Sto} {f n m : Nat} (h : Feed M f n) (e : n ≤ m) : Feed M f m := by
  obtain ⟨ns, i, l, c, h, r1, r2, r3, r4, r5⟩ := h
  exact ⟨ns, i, l, c, h, r1, r2, r3, r4, by omega⟩
theorem Feed.fr {M M' : Sto} {f n : Nat} {S : List Nat} (h : Feed M f n) (e : Fr S M M') (hn : f ∉ S) : Feed M' f n := by
  obtain ⟨ns, i, l, c, h, r⟩ := h
  exact ⟨ns, i, l, c, e.get h hn, r⟩
theorem Feed.app {M : Sto} {o : Ob} {f n : Nat} (h : Feed M f n) : Feed (M ++ [o]) f n := by
  obtain ⟨ns, i, l, c, h, r⟩ := h
  exact ⟨ns, i, l, c, at_old h, r⟩
theorem Feed.lt {M : Sto} {f n : Nat} (h : Feed M f n) : f < M.length := by
  obtain ⟨ns, i, l, c, h, r⟩ := h
  exact at_lt h
theorem Feed.take {M : Sto} {f n k : Nat} (h : Feed M f n) (hk : f < k) : Feed (M.take k) f n := by
  obtain ⟨ns, i, l, c, h, r⟩ := h
  exact ⟨ns, i, l, c, by rw [List.getElem?_take_of_lt hk]; exact h, r⟩
theorem feed_on {ns : List Int} {M : Sto} (hM : Flat M) : (F_lfeed [.s ns] M).on fun w M' => ∃ o, w = .r M.length ∧ M' = M ++ [o] ∧ Flat M' ∧ Feed M' M.length 0 := by
  refine fn_on rfl ?_
  unfold B_lfeed
  try simp only [onO_nx, onO_rt, onO_bad, onO_out, onO_ite, on_ite, onO_seq, onO_skip, onO_if, onO_ret, onO_set, onO_ex, onO_for, on_bindI, on_okI, on_badI, fCall, fCons, fNil, fPv, fC, fOp, fTest, fNotT, fAndT, fOrT, fAndV, fOrV, fNotV, fIf, fTup, fLst, fLstM, fSl, fPart, fNoP, fMethL, fNeg, fPut, fPar, fAsg, fYes, List.getElem?_cons_zero, List.getElem?_cons_succ, List.set_cons_zero, List.set_cons_succ, List.map_cons, List.map_nil, List.nil_append, List.cons_append, List.length_cons, List.length_nil, List.reduceReplicate, Nat.reduceSub, Nat.reduceAdd, Nat.zero_add, Bool.not_true, Bool.not_false, if_true, if_false, reduceIte, Bool.false_eq_true, reduceCtorEq, datas, Option.map_some, Option.bind_some, e_add, e_sub, e_lt, e_le, e_gt, e_ge, e_eqI, e_eqB, e_neI, e_neT, e_lenL, e_lenT, ixN43, ixN42, ixN41, ixN10, decide_true, decide_false]
  simp only [oSlL, on_okI, datas, Option.map_some]
  simp only [show (4 : Nat) ≤ sizeLine from by decide, if_true, on_okI]
  refine ⟨_, trivial, rfl, hM.app ?_, (cutL ns none (some 63)), 0, 0, 0, at_new, ?_, by omega, by omega, by omega, by omega⟩
  · intro w hw
    simp only [List.mem_cons, List.not_mem_nil, or_false] at hw
    rcases hw with z | z | z | z <;> exact ⟨_, z⟩
  · unfold cutL HT.sIx
    simp
    omega
theorem ixL {M : Sto} {f : Nat} {ws : List Wv} {k : Int} {w : Wv} (h : M[f]? = some (.lst ws)) (e : atI ws k = some w) : oIxL (.r f) (.d (.int k)) M = .ok w M := by
  simp only [oIxL, lsv, h, e]
theorem ixLd {M : Sto} {ds : List PyData} {k : Int} {d : PyData} (e : atI ds k = some d) : oIxL (.d (.list ds)) (.d (.int k)) M = .ok (.d d) M := by
  unfold oIxL lsv
  dsimp only
  have : atI (ds.map Wv.d) k = some (.d d) := by
    unfold atI at e ⊢
    rw [List.length_map]
    cases h : ixN ds.length k with
    | none => rw [h] at e; cases e
    | some j =>
      rw [h] at e
      show (ds.map Wv.d)[j]? = _
      rw [List.getElem?_map, show ds[j]? = some d from e]
      rfl
  rw [this]
theorem ixTd {M : Sto} {ds : List PyData} {k : Int} {d : PyData} (e : atI ds k = some d) : oIxT (.d (.tuple ds)) (.d (.int k)) M = .ok (.d d) M := by
  unfold oIxT
  dsimp only
  rw [e]
theorem at_in {α : Type} {xs : List α} {r : Int} (h0 : 0 ≤ r) (h1 : r < (xs.length : Nat)) : ∃ d, atI xs r = some d ∧ xs[r.toNat]? = some d := by
  unfold atI ixN
  rw [if_pos h0, if_pos h1]
  have : r.toNat < xs.length := by omega
  exact ⟨xs[r.toNat], List.getElem?_eq_getElem this, List.getElem?_eq_getElem this⟩
theorem put4 {M : Sto} {f : Nat} {ws : List Wv} {o : Ob} (h : M[f]? = some o) : (setL M f ws)[f]? = some (.lst ws) := List.getElem?_set_self (at_lt h)
theorem put_put {M : Sto} {f : Nat} {ws us : List Wv} : setL (setL M f ws) f us = setL M f us := List.set_set ..
theorem pow_nn {a : Int} {k : Nat} (h : 0 ≤ a) : 0 ≤ a ^ k := by
  induction k with
  | zero => rw [Int.pow_zero]; decide
  | succ k ih => rw [Int.pow_succ]; exact Int.mul_nonneg ih h
theorem lk_shaped (ns : List Int) : SeqAt.shaped (.list (ns.map PyData.int)) = true := by
  have h1 : PyData.canLayAll0 (ns.map PyData.int) = true := by
    induction ns with
    | nil => rfl
    | cons n ns ih => simp [PyData.canLayAll0, PyData.canLay0, ih]
  have h2 : PyData.depthAll (ns.map PyData.int) = 0 := by
    induction ns with
    | nil => rfl
    | cons n ns ih =>
      have ih' := ih (by simpa [PyData.canLayAll0, PyData.canLay0] using h1)
      simp [PyData.depthAll, PyData.depth, ih']
  unfold SeqAt.shaped
  simp only [PyData.canLay0, PyData.depth, h1, h2, Bool.true_and, decide_eq_true_eq]
  omega
theorem ns_empty (ns : List Int) : PyData.eqv (.list (ns.map PyData.int)) (.list []) = ns.isEmpty := by
  cases ns with
  | nil => rfl
  | cons n ns => simp [PyData.eqv, PyData.eqvAll]
theorem fl4 {ns : List Int} {a b c : Int} : Ob.fl (.lst [.d (.list (ns.map PyData.int)), .d (.int a), .d (.int b), .d (.int c)]) := by
  intro w hw
  simp only [List.mem_cons, List.not_mem_nil, or_false] at hw
  rcases hw with z | z | z | z <;> exact ⟨_, z⟩
theorem draw_tail {M : Sto} {f n : Nat} {m : Int} {ns : List Int} {i l c : Int} {o : Ob} (h0 : M[f]? = some o) (m1 : 1 ≤ m) (m2 : m < 2 ^ 29) (hn : n ≤ 1000000000) (h2 : 0 ≤ i) (h3 : 0 ≤ l) (h4 : 0 ≤ c) (h5 : c ≤ n) {nx : Slo → Sto → Prop} {rt : Wv → Sto → Prop}
    (fin : ∀ (r i' l' : Int), 0 ≤ r → r < m → 0 ≤ i' → 0 ≤ l' → rt (.d (.int r)) (setL M f [.d (.list (ns.map PyData.int)), .d (.int i'), .d (.int l'), .d (.int (c + 1))])) (cell : Int) :
    (B_ldraw_1 [some (.r f), some (.d (.int m)), none, some (.d (.int cell)), none] (setL M f [.d (.list (ns.map PyData.int)), .d (.int i), .d (.int l), .d (.int (c + 1))])).on nx rt := by
  generalize hM1 : setL M f [.d (.list (ns.map PyData.int)), .d (.int i), .d (.int l), .d (.int (c + 1))] = M1
  have g1 : M1[f]? = some (.lst [.d (.list (ns.map PyData.int)), .d (.int i), .d (.int l), .d (.int (c + 1))]) := by rw [← hM1]; exact put4 h0
  unfold B_ldraw_1
  try simp only [onO_nx, onO_rt, onO_bad, onO_out, onO_ite, on_ite, onO_seq, onO_skip, onO_if, onO_ret, onO_set, onO_ex, onO_for, on_bindI, on_okI, on_badI, fCall, fCons, fNil, fPv, fC, fOp, fTest, fNotT, fAndT, fOrT, fAndV, fOrV, fNotV, fIf, fTup, fLst, fLstM, fSl, fPart, fNoP, fMethL, fNeg, fPut, fPar, fAsg, fYes, List.getElem?_cons_zero, List.getElem?_cons_succ, List.set_cons_zero, List.set_cons_succ, List.map_cons, List.map_nil, List.nil_append, List.cons_append, List.length_cons, List.length_nil, List.reduceReplicate, Nat.reduceSub, Nat.reduceAdd, Nat.zero_add, Bool.not_true, Bool.not_false, if_true, if_false, reduceIte, Bool.false_eq_true, reduceCtorEq, datas, Option.map_some, Option.bind_some, e_add, e_sub, e_lt, e_le, e_gt, e_ge, e_eqI, e_eqB, e_neI, e_neT, e_lenL, e_lenT, ixN43, ixN42, ixN41, ixN10, decide_true, decide_false]
  rw [ixL g1 (by rfl)]
  try simp only [onO_nx, onO_rt, onO_bad, onO_out, onO_ite, on_ite, onO_seq, onO_skip, onO_if, onO_ret, onO_set, onO_ex, onO_for, on_bindI, on_okI, on_badI, fCall, fCons, fNil, fPv, fC, fOp, fTest, fNotT, fAndT, fOrT, fAndV, fOrV, fNotV, fIf, fTup, fLst, fLstM, fSl, fPart, fNoP, fMethL, fNeg, fPut, fPar, fAsg, fYes, List.getElem?_cons_zero, List.getElem?_cons_succ, List.set_cons_zero, List.set_cons_succ, List.map_cons, List.map_nil, List.nil_append, List.cons_append, List.length_cons, List.length_nil, List.reduceReplicate, Nat.reduceSub, Nat.reduceAdd, Nat.zero_add, Bool.not_true, Bool.not_false, if_true, if_false, reduceIte, Bool.false_eq_true, reduceCtorEq, datas, Option.map_some, Option.bind_some, e_add, e_sub, e_lt, e_le, e_gt, e_ge, e_eqI, e_eqB, e_neI, e_neT, e_lenL, e_lenT, ixN43, ixN42, ixN41, ixN10, decide_true, decide_false, g1, e_pow18]
  rw [← hM1, put_put]
  generalize hM2 : setL M f [.d (.list (ns.map PyData.int)), .d (.int (i + 1)), .d (.int l), .d (.int (c + 1))] = M2
  have g2 : M2[f]? = some (.lst [.d (.list (ns.map PyData.int)), .d (.int (i + 1)), .d (.int l), .d (.int (c + 1))]) := by rw [← hM2]; exact put4 h0
  have p1 : 0 ≤ cell % 2147483629 := Int.emod_nonneg _ (by omega)
  have p2 : cell % 2147483629 < 2147483629 := Int.emod_lt_of_pos _ (by omega)
  have p3 : 0 ≤ (cell % 2147483629 + 7919 * (c + 1) + 1) ^ 5 % 2147483647 := Int.emod_nonneg _ (by omega)
  have p4 : (cell % 2147483629 + 7919 * (c + 1) + 1) ^ 5 % 2147483647 < 2147483647 := Int.emod_lt_of_pos _ (by omega)
  by_cases hA : (10 ^ 18 : Int) ≤ cell
  · simp only [hA, decide_true, if_true]
    rw [ixL g2 (by rfl)]
    try simp only [onO_nx, onO_rt, onO_bad, onO_out, onO_ite, on_ite, onO_seq, onO_skip, onO_if, onO_ret, onO_set, onO_ex, onO_for, on_bindI, on_okI, on_badI, fCall, fCons, fNil, fPv, fC, fOp, fTest, fNotT, fAndT, fOrT, fAndV, fOrV, fNotV, fIf, fTup, fLst, fLstM, fSl, fPart, fNoP, fMethL, fNeg, fPut, fPar, fAsg, fYes, List.getElem?_cons_zero, List.getElem?_cons_succ, List.set_cons_zero, List.set_cons_succ, List.map_cons, List.map_nil, List.nil_append, List.cons_append, List.length_cons, List.length_nil, List.reduceReplicate, Nat.reduceSub, Nat.reduceAdd, Nat.zero_add, Bool.not_true, Bool.not_false, if_true, if_false, reduceIte, Bool.false_eq_true, reduceCtorEq, datas, Option.map_some, Option.bind_some, e_add, e_sub, e_lt, e_le, e_gt, e_ge, e_eqI, e_eqB, e_neI, e_neT, e_lenL, e_lenT, ixN43, ixN42, ixN41, ixN10, decide_true, decide_false]
    rw [ixL g2 (by rfl)]
    try simp only [onO_nx, onO_rt, onO_bad, onO_out, onO_ite, on_ite, onO_seq, onO_skip, onO_if, onO_ret, onO_set, onO_ex, onO_for, on_bindI, on_okI, on_badI, fCall, fCons, fNil, fPv, fC, fOp, fTest, fNotT, fAndT, fOrT, fAndV, fOrV, fNotV, fIf, fTup, fLst, fLstM, fSl, fPart, fNoP, fMethL, fNeg, fPut, fPar, fAsg, fYes, List.getElem?_cons_zero, List.getElem?_cons_succ, List.set_cons_zero, List.set_cons_succ, List.map_cons, List.map_nil, List.nil_append, List.cons_append, List.length_cons, List.length_nil, List.reduceReplicate, Nat.reduceSub, Nat.reduceAdd, Nat.zero_add, Bool.not_true, Bool.not_false, if_true, if_false, reduceIte, Bool.false_eq_true, reduceCtorEq, datas, Option.map_some, Option.bind_some, e_add, e_sub, e_lt, e_le, e_gt, e_ge, e_eqI, e_eqB, e_neI, e_neT, e_lenL, e_lenT, ixN43, ixN42, ixN41, ixN10, decide_true, decide_false]
    by_cases hB : i + 1 ≤ ((ns.map PyData.int).length : Nat)
    · simp only [hB, decide_true, if_true]
      rw [e_fdiv (by omega) (by omega)]
      try simp only [onO_nx, onO_rt, onO_bad, onO_out, onO_ite, on_ite, onO_seq, onO_skip, onO_if, onO_ret, onO_set, onO_ex, onO_for, on_bindI, on_okI, on_badI, fCall, fCons, fNil, fPv, fC, fOp, fTest, fNotT, fAndT, fOrT, fAndV, fOrV, fNotV, fIf, fTup, fLst, fLstM, fSl, fPart, fNoP, fMethL, fNeg, fPut, fPar, fAsg, fYes, List.getElem?_cons_zero, List.getElem?_cons_succ, List.set_cons_zero, List.set_cons_succ, List.map_cons, List.map_nil, List.nil_append, List.cons_append, List.length_cons, List.length_nil, List.reduceReplicate, Nat.reduceSub, Nat.reduceAdd, Nat.zero_add, Bool.not_true, Bool.not_false, if_true, if_false, reduceIte, Bool.false_eq_true, reduceCtorEq, datas, Option.map_some, Option.bind_some, e_add, e_sub, e_lt, e_le, e_gt, e_ge, e_eqI, e_eqB, e_neI, e_neT, e_lenL, e_lenT, ixN43, ixN42, ixN41, ixN10, decide_true, decide_false, g2]
      rw [e_mod (by omega), ← hM2, put_put]
      try simp only [onO_nx, onO_rt, onO_bad, onO_out, onO_ite, on_ite, onO_seq, onO_skip, onO_if, onO_ret, onO_set, onO_ex, onO_for, on_bindI, on_okI, on_badI, fCall, fCons, fNil, fPv, fC, fOp, fTest, fNotT, fAndT, fOrT, fAndV, fOrV, fNotV, fIf, fTup, fLst, fLstM, fSl, fPart, fNoP, fMethL, fNeg, fPut, fPar, fAsg, fYes, List.getElem?_cons_zero, List.getElem?_cons_succ, List.set_cons_zero, List.set_cons_succ, List.map_cons, List.map_nil, List.nil_append, List.cons_append, List.length_cons, List.length_nil, List.reduceReplicate, Nat.reduceSub, Nat.reduceAdd, Nat.zero_add, Bool.not_true, Bool.not_false, if_true, if_false, reduceIte, Bool.false_eq_true, reduceCtorEq, datas, Option.map_some, Option.bind_some, e_add, e_sub, e_lt, e_le, e_gt, e_ge, e_eqI, e_eqB, e_neI, e_neT, e_lenL, e_lenT, ixN43, ixN42, ixN41, ixN10, decide_true, decide_false]
      exact fin _ _ _ (Int.emod_nonneg _ (by omega)) (Int.emod_lt_of_pos _ (by omega)) (by omega) (Int.ediv_nonneg (by omega) (by omega))
    · simp only [hB, decide_false, Bool.false_eq_true, if_false]
      rw [e_mod (by omega)]
      try simp only [onO_nx, onO_rt, onO_bad, onO_out, onO_ite, on_ite, onO_seq, onO_skip, onO_if, onO_ret, onO_set, onO_ex, onO_for, on_bindI, on_okI, on_badI, fCall, fCons, fNil, fPv, fC, fOp, fTest, fNotT, fAndT, fOrT, fAndV, fOrV, fNotV, fIf, fTup, fLst, fLstM, fSl, fPart, fNoP, fMethL, fNeg, fPut, fPar, fAsg, fYes, List.getElem?_cons_zero, List.getElem?_cons_succ, List.set_cons_zero, List.set_cons_succ, List.map_cons, List.map_nil, List.nil_append, List.cons_append, List.length_cons, List.length_nil, List.reduceReplicate, Nat.reduceSub, Nat.reduceAdd, Nat.zero_add, Bool.not_true, Bool.not_false, if_true, if_false, reduceIte, Bool.false_eq_true, reduceCtorEq, datas, Option.map_some, Option.bind_some, e_add, e_sub, e_lt, e_le, e_gt, e_ge, e_eqI, e_eqB, e_neI, e_neT, e_lenL, e_lenT, ixN43, ixN42, ixN41, ixN10, decide_true, decide_false]
      rw [ixL g2 (by rfl)]
      try simp only [onO_nx, onO_rt, onO_bad, onO_out, onO_ite, on_ite, onO_seq, onO_skip, onO_if, onO_ret, onO_set, onO_ex, onO_for, on_bindI, on_okI, on_badI, fCall, fCons, fNil, fPv, fC, fOp, fTest, fNotT, fAndT, fOrT, fAndV, fOrV, fNotV, fIf, fTup, fLst, fLstM, fSl, fPart, fNoP, fMethL, fNeg, fPut, fPar, fAsg, fYes, List.getElem?_cons_zero, List.getElem?_cons_succ, List.set_cons_zero, List.set_cons_succ, List.map_cons, List.map_nil, List.nil_append, List.cons_append, List.length_cons, List.length_nil, List.reduceReplicate, Nat.reduceSub, Nat.reduceAdd, Nat.zero_add, Bool.not_true, Bool.not_false, if_true, if_false, reduceIte, Bool.false_eq_true, reduceCtorEq, datas, Option.map_some, Option.bind_some, e_add, e_sub, e_lt, e_le, e_gt, e_ge, e_eqI, e_eqB, e_neI, e_neT, e_lenL, e_lenT, ixN43, ixN42, ixN41, ixN10, decide_true, decide_false]
      rw [e_mulL (by omega) (by omega)]
      try simp only [onO_nx, onO_rt, onO_bad, onO_out, onO_ite, on_ite, onO_seq, onO_skip, onO_if, onO_ret, onO_set, onO_ex, onO_for, on_bindI, on_okI, on_badI, fCall, fCons, fNil, fPv, fC, fOp, fTest, fNotT, fAndT, fOrT, fAndV, fOrV, fNotV, fIf, fTup, fLst, fLstM, fSl, fPart, fNoP, fMethL, fNeg, fPut, fPar, fAsg, fYes, List.getElem?_cons_zero, List.getElem?_cons_succ, List.set_cons_zero, List.set_cons_succ, List.map_cons, List.map_nil, List.nil_append, List.cons_append, List.length_cons, List.length_nil, List.reduceReplicate, Nat.reduceSub, Nat.reduceAdd, Nat.zero_add, Bool.not_true, Bool.not_false, if_true, if_false, reduceIte, Bool.false_eq_true, reduceCtorEq, datas, Option.map_some, Option.bind_some, e_add, e_sub, e_lt, e_le, e_gt, e_ge, e_eqI, e_eqB, e_neI, e_neT, e_lenL, e_lenT, ixN43, ixN42, ixN41, ixN10, decide_true, decide_false]
      rw [e_pow5 (by omega)]
      try simp only [onO_nx, onO_rt, onO_bad, onO_out, onO_ite, on_ite, onO_seq, onO_skip, onO_if, onO_ret, onO_set, onO_ex, onO_for, on_bindI, on_okI, on_badI, fCall, fCons, fNil, fPv, fC, fOp, fTest, fNotT, fAndT, fOrT, fAndV, fOrV, fNotV, fIf, fTup, fLst, fLstM, fSl, fPart, fNoP, fMethL, fNeg, fPut, fPar, fAsg, fYes, List.getElem?_cons_zero, List.getElem?_cons_succ, List.set_cons_zero, List.set_cons_succ, List.map_cons, List.map_nil, List.nil_append, List.cons_append, List.length_cons, List.length_nil, List.reduceReplicate, Nat.reduceSub, Nat.reduceAdd, Nat.zero_add, Bool.not_true, Bool.not_false, if_true, if_false, reduceIte, Bool.false_eq_true, reduceCtorEq, datas, Option.map_some, Option.bind_some, e_add, e_sub, e_lt, e_le, e_gt, e_ge, e_eqI, e_eqB, e_neI, e_neT, e_lenL, e_lenT, ixN43, ixN42, ixN41, ixN10, decide_true, decide_false]
      rw [e_mod (by omega)]
      try simp only [onO_nx, onO_rt, onO_bad, onO_out, onO_ite, on_ite, onO_seq, onO_skip, onO_if, onO_ret, onO_set, onO_ex, onO_for, on_bindI, on_okI, on_badI, fCall, fCons, fNil, fPv, fC, fOp, fTest, fNotT, fAndT, fOrT, fAndV, fOrV, fNotV, fIf, fTup, fLst, fLstM, fSl, fPart, fNoP, fMethL, fNeg, fPut, fPar, fAsg, fYes, List.getElem?_cons_zero, List.getElem?_cons_succ, List.set_cons_zero, List.set_cons_succ, List.map_cons, List.map_nil, List.nil_append, List.cons_append, List.length_cons, List.length_nil, List.reduceReplicate, Nat.reduceSub, Nat.reduceAdd, Nat.zero_add, Bool.not_true, Bool.not_false, if_true, if_false, reduceIte, Bool.false_eq_true, reduceCtorEq, datas, Option.map_some, Option.bind_some, e_add, e_sub, e_lt, e_le, e_gt, e_ge, e_eqI, e_eqB, e_neI, e_neT, e_lenL, e_lenT, ixN43, ixN42, ixN41, ixN10, decide_true, decide_false]
      rw [ixL g2 (by rfl)]
      try simp only [onO_nx, onO_rt, onO_bad, onO_out, onO_ite, on_ite, onO_seq, onO_skip, onO_if, onO_ret, onO_set, onO_ex, onO_for, on_bindI, on_okI, on_badI, fCall, fCons, fNil, fPv, fC, fOp, fTest, fNotT, fAndT, fOrT, fAndV, fOrV, fNotV, fIf, fTup, fLst, fLstM, fSl, fPart, fNoP, fMethL, fNeg, fPut, fPar, fAsg, fYes, List.getElem?_cons_zero, List.getElem?_cons_succ, List.set_cons_zero, List.set_cons_succ, List.map_cons, List.map_nil, List.nil_append, List.cons_append, List.length_cons, List.length_nil, List.reduceReplicate, Nat.reduceSub, Nat.reduceAdd, Nat.zero_add, Bool.not_true, Bool.not_false, if_true, if_false, reduceIte, Bool.false_eq_true, reduceCtorEq, datas, Option.map_some, Option.bind_some, e_add, e_sub, e_lt, e_le, e_gt, e_ge, e_eqI, e_eqB, e_neI, e_neT, e_lenL, e_lenT, ixN43, ixN42, ixN41, ixN10, decide_true, decide_false]
      rw [e_mulL (by omega) (by omega)]
      try simp only [onO_nx, onO_rt, onO_bad, onO_out, onO_ite, on_ite, onO_seq, onO_skip, onO_if, onO_ret, onO_set, onO_ex, onO_for, on_bindI, on_okI, on_badI, fCall, fCons, fNil, fPv, fC, fOp, fTest, fNotT, fAndT, fOrT, fAndV, fOrV, fNotV, fIf, fTup, fLst, fLstM, fSl, fPart, fNoP, fMethL, fNeg, fPut, fPar, fAsg, fYes, List.getElem?_cons_zero, List.getElem?_cons_succ, List.set_cons_zero, List.set_cons_succ, List.map_cons, List.map_nil, List.nil_append, List.cons_append, List.length_cons, List.length_nil, List.reduceReplicate, Nat.reduceSub, Nat.reduceAdd, Nat.zero_add, Bool.not_true, Bool.not_false, if_true, if_false, reduceIte, Bool.false_eq_true, reduceCtorEq, datas, Option.map_some, Option.bind_some, e_add, e_sub, e_lt, e_le, e_gt, e_ge, e_eqI, e_eqB, e_neI, e_neT, e_lenL, e_lenT, ixN43, ixN42, ixN41, ixN10, decide_true, decide_false]
      rw [e_pow5 (by omega)]
      try simp only [onO_nx, onO_rt, onO_bad, onO_out, onO_ite, on_ite, onO_seq, onO_skip, onO_if, onO_ret, onO_set, onO_ex, onO_for, on_bindI, on_okI, on_badI, fCall, fCons, fNil, fPv, fC, fOp, fTest, fNotT, fAndT, fOrT, fAndV, fOrV, fNotV, fIf, fTup, fLst, fLstM, fSl, fPart, fNoP, fMethL, fNeg, fPut, fPar, fAsg, fYes, List.getElem?_cons_zero, List.getElem?_cons_succ, List.set_cons_zero, List.set_cons_succ, List.map_cons, List.map_nil, List.nil_append, List.cons_append, List.length_cons, List.length_nil, List.reduceReplicate, Nat.reduceSub, Nat.reduceAdd, Nat.zero_add, Bool.not_true, Bool.not_false, if_true, if_false, reduceIte, Bool.false_eq_true, reduceCtorEq, datas, Option.map_some, Option.bind_some, e_add, e_sub, e_lt, e_le, e_gt, e_ge, e_eqI, e_eqB, e_neI, e_neT, e_lenL, e_lenT, ixN43, ixN42, ixN41, ixN10, decide_true, decide_false]
      rw [e_mod (by omega)]
      try simp only [onO_nx, onO_rt, onO_bad, onO_out, onO_ite, on_ite, onO_seq, onO_skip, onO_if, onO_ret, onO_set, onO_ex, onO_for, on_bindI, on_okI, on_badI, fCall, fCons, fNil, fPv, fC, fOp, fTest, fNotT, fAndT, fOrT, fAndV, fOrV, fNotV, fIf, fTup, fLst, fLstM, fSl, fPart, fNoP, fMethL, fNeg, fPut, fPar, fAsg, fYes, List.getElem?_cons_zero, List.getElem?_cons_succ, List.set_cons_zero, List.set_cons_succ, List.map_cons, List.map_nil, List.nil_append, List.cons_append, List.length_cons, List.length_nil, List.reduceReplicate, Nat.reduceSub, Nat.reduceAdd, Nat.zero_add, Bool.not_true, Bool.not_false, if_true, if_false, reduceIte, Bool.false_eq_true, reduceCtorEq, datas, Option.map_some, Option.bind_some, e_add, e_sub, e_lt, e_le, e_gt, e_ge, e_eqI, e_eqB, e_neI, e_neT, e_lenL, e_lenT, ixN43, ixN42, ixN41, ixN10, decide_true, decide_false]
      rw [e_fdiv (by omega) (by omega)]
      try simp only [onO_nx, onO_rt, onO_bad, onO_out, onO_ite, on_ite, onO_seq, onO_skip, onO_if, onO_ret, onO_set, onO_ex, onO_for, on_bindI, on_okI, on_badI, fCall, fCons, fNil, fPv, fC, fOp, fTest, fNotT, fAndT, fOrT, fAndV, fOrV, fNotV, fIf, fTup, fLst, fLstM, fSl, fPart, fNoP, fMethL, fNeg, fPut, fPar, fAsg, fYes, List.getElem?_cons_zero, List.getElem?_cons_succ, List.set_cons_zero, List.set_cons_succ, List.map_cons, List.map_nil, List.nil_append, List.cons_append, List.length_cons, List.length_nil, List.reduceReplicate, Nat.reduceSub, Nat.reduceAdd, Nat.zero_add, Bool.not_true, Bool.not_false, if_true, if_false, reduceIte, Bool.false_eq_true, reduceCtorEq, datas, Option.map_some, Option.bind_some, e_add, e_sub, e_lt, e_le, e_gt, e_ge, e_eqI, e_eqB, e_neI, e_neT, e_lenL, e_lenT, ixN43, ixN42, ixN41, ixN10, decide_true, decide_false]
      rw [e_mod (by omega)]
      try simp only [onO_nx, onO_rt, onO_bad, onO_out, onO_ite, on_ite, onO_seq, onO_skip, onO_if, onO_ret, onO_set, onO_ex, onO_for, on_bindI, on_okI, on_badI, fCall, fCons, fNil, fPv, fC, fOp, fTest, fNotT, fAndT, fOrT, fAndV, fOrV, fNotV, fIf, fTup, fLst, fLstM, fSl, fPart, fNoP, fMethL, fNeg, fPut, fPar, fAsg, fYes, List.getElem?_cons_zero, List.getElem?_cons_succ, List.set_cons_zero, List.set_cons_succ, List.map_cons, List.map_nil, List.nil_append, List.cons_append, List.length_cons, List.length_nil, List.reduceReplicate, Nat.reduceSub, Nat.reduceAdd, Nat.zero_add, Bool.not_true, Bool.not_false, if_true, if_false, reduceIte, Bool.false_eq_true, reduceCtorEq, datas, Option.map_some, Option.bind_some, e_add, e_sub, e_lt, e_le, e_gt, e_ge, e_eqI, e_eqB, e_neI, e_neT, e_lenL, e_lenT, ixN43, ixN42, ixN41, ixN10, decide_true, decide_false]
      rw [← hM2]
      exact fin _ _ _ (Int.emod_nonneg _ (by omega)) (Int.emod_lt_of_pos _ (by omega)) (by omega) h3
  · simp only [hA, decide_false, Bool.false_eq_true, if_false]
    rw [e_mod (by omega)]
    try simp only [onO_nx, onO_rt, onO_bad, onO_out, onO_ite, on_ite, onO_seq, onO_skip, onO_if, onO_ret, onO_set, onO_ex, onO_for, on_bindI, on_okI, on_badI, fCall, fCons, fNil, fPv, fC, fOp, fTest, fNotT, fAndT, fOrT, fAndV, fOrV, fNotV, fIf, fTup, fLst, fLstM, fSl, fPart, fNoP, fMethL, fNeg, fPut, fPar, fAsg, fYes, List.getElem?_cons_zero, List.getElem?_cons_succ, List.set_cons_zero, List.set_cons_succ, List.map_cons, List.map_nil, List.nil_append, List.cons_append, List.length_cons, List.length_nil, List.reduceReplicate, Nat.reduceSub, Nat.reduceAdd, Nat.zero_add, Bool.not_true, Bool.not_false, if_true, if_false, reduceIte, Bool.false_eq_true, reduceCtorEq, datas, Option.map_some, Option.bind_some, e_add, e_sub, e_lt, e_le, e_gt, e_ge, e_eqI, e_eqB, e_neI, e_neT, e_lenL, e_lenT, ixN43, ixN42, ixN41, ixN10, decide_true, decide_false]
    rw [ixL g2 (by rfl)]
    try simp only [onO_nx, onO_rt, onO_bad, onO_out, onO_ite, on_ite, onO_seq, onO_skip, onO_if, onO_ret, onO_set, onO_ex, onO_for, on_bindI, on_okI, on_badI, fCall, fCons, fNil, fPv, fC, fOp, fTest, fNotT, fAndT, fOrT, fAndV, fOrV, fNotV, fIf, fTup, fLst, fLstM, fSl, fPart, fNoP, fMethL, fNeg, fPut, fPar, fAsg, fYes, List.getElem?_cons_zero, List.getElem?_cons_succ, List.set_cons_zero, List.set_cons_succ, List.map_cons, List.map_nil, List.nil_append, List.cons_append, List.length_cons, List.length_nil, List.reduceReplicate, Nat.reduceSub, Nat.reduceAdd, Nat.zero_add, Bool.not_true, Bool.not_false, if_true, if_false, reduceIte, Bool.false_eq_true, reduceCtorEq, datas, Option.map_some, Option.bind_some, e_add, e_sub, e_lt, e_le, e_gt, e_ge, e_eqI, e_eqB, e_neI, e_neT, e_lenL, e_lenT, ixN43, ixN42, ixN41, ixN10, decide_true, decide_false]
    rw [e_mulL (by omega) (by omega)]
    try simp only [onO_nx, onO_rt, onO_bad, onO_out, onO_ite, on_ite, onO_seq, onO_skip, onO_if, onO_ret, onO_set, onO_ex, onO_for, on_bindI, on_okI, on_badI, fCall, fCons, fNil, fPv, fC, fOp, fTest, fNotT, fAndT, fOrT, fAndV, fOrV, fNotV, fIf, fTup, fLst, fLstM, fSl, fPart, fNoP, fMethL, fNeg, fPut, fPar, fAsg, fYes, List.getElem?_cons_zero, List.getElem?_cons_succ, List.set_cons_zero, List.set_cons_succ, List.map_cons, List.map_nil, List.nil_append, List.cons_append, List.length_cons, List.length_nil, List.reduceReplicate, Nat.reduceSub, Nat.reduceAdd, Nat.zero_add, Bool.not_true, Bool.not_false, if_true, if_false, reduceIte, Bool.false_eq_true, reduceCtorEq, datas, Option.map_some, Option.bind_some, e_add, e_sub, e_lt, e_le, e_gt, e_ge, e_eqI, e_eqB, e_neI, e_neT, e_lenL, e_lenT, ixN43, ixN42, ixN41, ixN10, decide_true, decide_false]
    rw [e_pow5 (by omega)]
    try simp only [onO_nx, onO_rt, onO_bad, onO_out, onO_ite, on_ite, onO_seq, onO_skip, onO_if, onO_ret, onO_set, onO_ex, onO_for, on_bindI, on_okI, on_badI, fCall, fCons, fNil, fPv, fC, fOp, fTest, fNotT, fAndT, fOrT, fAndV, fOrV, fNotV, fIf, fTup, fLst, fLstM, fSl, fPart, fNoP, fMethL, fNeg, fPut, fPar, fAsg, fYes, List.getElem?_cons_zero, List.getElem?_cons_succ, List.set_cons_zero, List.set_cons_succ, List.map_cons, List.map_nil, List.nil_append, List.cons_append, List.length_cons, List.length_nil, List.reduceReplicate, Nat.reduceSub, Nat.reduceAdd, Nat.zero_add, Bool.not_true, Bool.not_false, if_true, if_false, reduceIte, Bool.false_eq_true, reduceCtorEq, datas, Option.map_some, Option.bind_some, e_add, e_sub, e_lt, e_le, e_gt, e_ge, e_eqI, e_eqB, e_neI, e_neT, e_lenL, e_lenT, ixN43, ixN42, ixN41, ixN10, decide_true, decide_false]
    rw [e_mod (by omega)]
    try simp only [onO_nx, onO_rt, onO_bad, onO_out, onO_ite, on_ite, onO_seq, onO_skip, onO_if, onO_ret, onO_set, onO_ex, onO_for, on_bindI, on_okI, on_badI, fCall, fCons, fNil, fPv, fC, fOp, fTest, fNotT, fAndT, fOrT, fAndV, fOrV, fNotV, fIf, fTup, fLst, fLstM, fSl, fPart, fNoP, fMethL, fNeg, fPut, fPar, fAsg, fYes, List.getElem?_cons_zero, List.getElem?_cons_succ, List.set_cons_zero, List.set_cons_succ, List.map_cons, List.map_nil, List.nil_append, List.cons_append, List.length_cons, List.length_nil, List.reduceReplicate, Nat.reduceSub, Nat.reduceAdd, Nat.zero_add, Bool.not_true, Bool.not_false, if_true, if_false, reduceIte, Bool.false_eq_true, reduceCtorEq, datas, Option.map_some, Option.bind_some, e_add, e_sub, e_lt, e_le, e_gt, e_ge, e_eqI, e_eqB, e_neI, e_neT, e_lenL, e_lenT, ixN43, ixN42, ixN41, ixN10, decide_true, decide_false]
    rw [ixL g2 (by rfl)]
    try simp only [onO_nx, onO_rt, onO_bad, onO_out, onO_ite, on_ite, onO_seq, onO_skip, onO_if, onO_ret, onO_set, onO_ex, onO_for, on_bindI, on_okI, on_badI, fCall, fCons, fNil, fPv, fC, fOp, fTest, fNotT, fAndT, fOrT, fAndV, fOrV, fNotV, fIf, fTup, fLst, fLstM, fSl, fPart, fNoP, fMethL, fNeg, fPut, fPar, fAsg, fYes, List.getElem?_cons_zero, List.getElem?_cons_succ, List.set_cons_zero, List.set_cons_succ, List.map_cons, List.map_nil, List.nil_append, List.cons_append, List.length_cons, List.length_nil, List.reduceReplicate, Nat.reduceSub, Nat.reduceAdd, Nat.zero_add, Bool.not_true, Bool.not_false, if_true, if_false, reduceIte, Bool.false_eq_true, reduceCtorEq, datas, Option.map_some, Option.bind_some, e_add, e_sub, e_lt, e_le, e_gt, e_ge, e_eqI, e_eqB, e_neI, e_neT, e_lenL, e_lenT, ixN43, ixN42, ixN41, ixN10, decide_true, decide_false]
    rw [e_mulL (by omega) (by omega)]
    try simp only [onO_nx, onO_rt, onO_bad, onO_out, onO_ite, on_ite, onO_seq, onO_skip, onO_if, onO_ret, onO_set, onO_ex, onO_for, on_bindI, on_okI, on_badI, fCall, fCons, fNil, fPv, fC, fOp, fTest, fNotT, fAndT, fOrT, fAndV, fOrV, fNotV, fIf, fTup, fLst, fLstM, fSl, fPart, fNoP, fMethL, fNeg, fPut, fPar, fAsg, fYes, List.getElem?_cons_zero, List.getElem?_cons_succ, List.set_cons_zero, List.set_cons_succ, List.map_cons, List.map_nil, List.nil_append, List.cons_append, List.length_cons, List.length_nil, List.reduceReplicate, Nat.reduceSub, Nat.reduceAdd, Nat.zero_add, Bool.not_true, Bool.not_false, if_true, if_false, reduceIte, Bool.false_eq_true, reduceCtorEq, datas, Option.map_some, Option.bind_some, e_add, e_sub, e_lt, e_le, e_gt, e_ge, e_eqI, e_eqB, e_neI, e_neT, e_lenL, e_lenT, ixN43, ixN42, ixN41, ixN10, decide_true, decide_false]
    rw [e_pow5 (by omega)]
    try simp only [onO_nx, onO_rt, onO_bad, onO_out, onO_ite, on_ite, onO_seq, onO_skip, onO_if, onO_ret, onO_set, onO_ex, onO_for, on_bindI, on_okI, on_badI, fCall, fCons, fNil, fPv, fC, fOp, fTest, fNotT, fAndT, fOrT, fAndV, fOrV, fNotV, fIf, fTup, fLst, fLstM, fSl, fPart, fNoP, fMethL, fNeg, fPut, fPar, fAsg, fYes, List.getElem?_cons_zero, List.getElem?_cons_succ, List.set_cons_zero, List.set_cons_succ, List.map_cons, List.map_nil, List.nil_append, List.cons_append, List.length_cons, List.length_nil, List.reduceReplicate, Nat.reduceSub, Nat.reduceAdd, Nat.zero_add, Bool.not_true, Bool.not_false, if_true, if_false, reduceIte, Bool.false_eq_true, reduceCtorEq, datas, Option.map_some, Option.bind_some, e_add, e_sub, e_lt, e_le, e_gt, e_ge, e_eqI, e_eqB, e_neI, e_neT, e_lenL, e_lenT, ixN43, ixN42, ixN41, ixN10, decide_true, decide_false]
    rw [e_mod (by omega)]
    try simp only [onO_nx, onO_rt, onO_bad, onO_out, onO_ite, on_ite, onO_seq, onO_skip, onO_if, onO_ret, onO_set, onO_ex, onO_for, on_bindI, on_okI, on_badI, fCall, fCons, fNil, fPv, fC, fOp, fTest, fNotT, fAndT, fOrT, fAndV, fOrV, fNotV, fIf, fTup, fLst, fLstM, fSl, fPart, fNoP, fMethL, fNeg, fPut, fPar, fAsg, fYes, List.getElem?_cons_zero, List.getElem?_cons_succ, List.set_cons_zero, List.set_cons_succ, List.map_cons, List.map_nil, List.nil_append, List.cons_append, List.length_cons, List.length_nil, List.reduceReplicate, Nat.reduceSub, Nat.reduceAdd, Nat.zero_add, Bool.not_true, Bool.not_false, if_true, if_false, reduceIte, Bool.false_eq_true, reduceCtorEq, datas, Option.map_some, Option.bind_some, e_add, e_sub, e_lt, e_le, e_gt, e_ge, e_eqI, e_eqB, e_neI, e_neT, e_lenL, e_lenT, ixN43, ixN42, ixN41, ixN10, decide_true, decide_false]
    rw [e_fdiv (by omega) (by omega)]
    try simp only [onO_nx, onO_rt, onO_bad, onO_out, onO_ite, on_ite, onO_seq, onO_skip, onO_if, onO_ret, onO_set, onO_ex, onO_for, on_bindI, on_okI, on_badI, fCall, fCons, fNil, fPv, fC, fOp, fTest, fNotT, fAndT, fOrT, fAndV, fOrV, fNotV, fIf, fTup, fLst, fLstM, fSl, fPart, fNoP, fMethL, fNeg, fPut, fPar, fAsg, fYes, List.getElem?_cons_zero, List.getElem?_cons_succ, List.set_cons_zero, List.set_cons_succ, List.map_cons, List.map_nil, List.nil_append, List.cons_append, List.length_cons, List.length_nil, List.reduceReplicate, Nat.reduceSub, Nat.reduceAdd, Nat.zero_add, Bool.not_true, Bool.not_false, if_true, if_false, reduceIte, Bool.false_eq_true, reduceCtorEq, datas, Option.map_some, Option.bind_some, e_add, e_sub, e_lt, e_le, e_gt, e_ge, e_eqI, e_eqB, e_neI, e_neT, e_lenL, e_lenT, ixN43, ixN42, ixN41, ixN10, decide_true, decide_false]
    rw [e_mod (by omega)]
    try simp only [onO_nx, onO_rt, onO_bad, onO_out, onO_ite, on_ite, onO_seq, onO_skip, onO_if, onO_ret, onO_set, onO_ex, onO_for, on_bindI, on_okI, on_badI, fCall, fCons, fNil, fPv, fC, fOp, fTest, fNotT, fAndT, fOrT, fAndV, fOrV, fNotV, fIf, fTup, fLst, fLstM, fSl, fPart, fNoP, fMethL, fNeg, fPut, fPar, fAsg, fYes, List.getElem?_cons_zero, List.getElem?_cons_succ, List.set_cons_zero, List.set_cons_succ, List.map_cons, List.map_nil, List.nil_append, List.cons_append, List.length_cons, List.length_nil, List.reduceReplicate, Nat.reduceSub, Nat.reduceAdd, Nat.zero_add, Bool.not_true, Bool.not_false, if_true, if_false, reduceIte, Bool.false_eq_true, reduceCtorEq, datas, Option.map_some, Option.bind_some, e_add, e_sub, e_lt, e_le, e_gt, e_ge, e_eqI, e_eqB, e_neI, e_neT, e_lenL, e_lenT, ixN43, ixN42, ixN41, ixN10, decide_true, decide_false]
    rw [← hM2]
    exact fin _ _ _ (Int.emod_nonneg _ (by omega)) (Int.emod_lt_of_pos _ (by omega)) (by omega) h3
theorem draw_on {M : Sto} {f n : Nat} {m : Int} (hf : Feed M f n) (hM : Flat M) (m1 : 1 ≤ m) (m2 : m < 2 ^ 29) (hn : n ≤ 1000000000) :
    (F_ldraw [.r f, .d (.int m)] M).on fun w M' => ∃ r : Int, w = .d (.int r) ∧ 0 ≤ r ∧ r < m ∧ Feed M' f (n + 1) ∧ Fr [f] M M' ∧ Flat M' := by
  obtain ⟨ns, i, l, c, h0, h1, h2, h3, h4, h5⟩ := hf
  have fin : ∀ (r i' l' : Int), 0 ≤ r → r < m → 0 ≤ i' → 0 ≤ l' → DropP M (fun w M' => ∃ r : Int, w = .d (.int r) ∧ 0 ≤ r ∧ r < m ∧ Feed M' f (n + 1) ∧ Fr [f] M M' ∧ Flat M') (.d (.int r)) (setL M f [.d (.list (ns.map PyData.int)), .d (.int i'), .d (.int l'), .d (.int (c + 1))]) := by
    intro r i' l' r0 r1 i0 l0
    have e1 : (setL M f [.d (.list (ns.map PyData.int)), .d (.int i'), .d (.int l'), .d (.int (c + 1))]).length = M.length := List.length_set
    have e : (setL M f [.d (.list (ns.map PyData.int)), .d (.int i'), .d (.int l'), .d (.int (c + 1))]).take M.length = setL M f [.d (.list (ns.map PyData.int)), .d (.int i'), .d (.int l'), .d (.int (c + 1))] := List.take_of_length_le (by omega)
    refine ⟨_, rfl, by rw [e1]; exact Nat.le_refl _, hM.set fl4, ?_⟩
    rw [e]
    exact ⟨r, rfl, r0, r1, ⟨ns, i', l', c + 1, put4 h0, h1, i0, l0, by omega, by omega⟩, Fr.set (by simp), hM.set fl4⟩
  unfold F_ldraw
  refine drop_on (fn_on rfl ?_)
  unfold B_ldraw
  try simp only [onO_nx, onO_rt, onO_bad, onO_out, onO_ite, on_ite, onO_seq, onO_skip, onO_if, onO_ret, onO_set, onO_ex, onO_for, on_bindI, on_okI, on_badI, fCall, fCons, fNil, fPv, fC, fOp, fTest, fNotT, fAndT, fOrT, fAndV, fOrV, fNotV, fIf, fTup, fLst, fLstM, fSl, fPart, fNoP, fMethL, fNeg, fPut, fPar, fAsg, fYes, List.getElem?_cons_zero, List.getElem?_cons_succ, List.set_cons_zero, List.set_cons_succ, List.map_cons, List.map_nil, List.nil_append, List.cons_append, List.length_cons, List.length_nil, List.reduceReplicate, Nat.reduceSub, Nat.reduceAdd, Nat.zero_add, Bool.not_true, Bool.not_false, if_true, if_false, reduceIte, Bool.false_eq_true, reduceCtorEq, datas, Option.map_some, Option.bind_some, e_add, e_sub, e_lt, e_le, e_gt, e_ge, e_eqI, e_eqB, e_neI, e_neT, e_lenL, e_lenT, ixN43, ixN42, ixN41, ixN10, decide_true, decide_false]
  rw [ixL h0 (by rfl)]
  try simp only [onO_nx, onO_rt, onO_bad, onO_out, onO_ite, on_ite, onO_seq, onO_skip, onO_if, onO_ret, onO_set, onO_ex, onO_for, on_bindI, on_okI, on_badI, fCall, fCons, fNil, fPv, fC, fOp, fTest, fNotT, fAndT, fOrT, fAndV, fOrV, fNotV, fIf, fTup, fLst, fLstM, fSl, fPart, fNoP, fMethL, fNeg, fPut, fPar, fAsg, fYes, List.getElem?_cons_zero, List.getElem?_cons_succ, List.set_cons_zero, List.set_cons_succ, List.map_cons, List.map_nil, List.nil_append, List.cons_append, List.length_cons, List.length_nil, List.reduceReplicate, Nat.reduceSub, Nat.reduceAdd, Nat.zero_add, Bool.not_true, Bool.not_false, if_true, if_false, reduceIte, Bool.false_eq_true, reduceCtorEq, datas, Option.map_some, Option.bind_some, e_add, e_sub, e_lt, e_le, e_gt, e_ge, e_eqI, e_eqB, e_neI, e_neT, e_lenL, e_lenT, ixN43, ixN42, ixN41, ixN10, decide_true, decide_false, h0]
  generalize hM1 : setL M f [.d (.list (ns.map PyData.int)), .d (.int i), .d (.int l), .d (.int (c + 1))] = M1
  have g1 : M1[f]? = some (.lst [.d (.list (ns.map PyData.int)), .d (.int i), .d (.int l), .d (.int (c + 1))]) := by rw [← hM1]; exact put4 h0
  rw [ixL g1 (by rfl)]
  try simp only [onO_nx, onO_rt, onO_bad, onO_out, onO_ite, on_ite, onO_seq, onO_skip, onO_if, onO_ret, onO_set, onO_ex, onO_for, on_bindI, on_okI, on_badI, fCall, fCons, fNil, fPv, fC, fOp, fTest, fNotT, fAndT, fOrT, fAndV, fOrV, fNotV, fIf, fTup, fLst, fLstM, fSl, fPart, fNoP, fMethL, fNeg, fPut, fPar, fAsg, fYes, List.getElem?_cons_zero, List.getElem?_cons_succ, List.set_cons_zero, List.set_cons_succ, List.map_cons, List.map_nil, List.nil_append, List.cons_append, List.length_cons, List.length_nil, List.reduceReplicate, Nat.reduceSub, Nat.reduceAdd, Nat.zero_add, Bool.not_true, Bool.not_false, if_true, if_false, reduceIte, Bool.false_eq_true, reduceCtorEq, datas, Option.map_some, Option.bind_some, e_add, e_sub, e_lt, e_le, e_gt, e_ge, e_eqI, e_eqB, e_neI, e_neT, e_lenL, e_lenT, ixN43, ixN42, ixN41, ixN10, decide_true, decide_false]
  by_cases hl : 0 < l
  · simp only [hl, decide_true, if_true]
    rw [ixL g1 (by rfl)]
    try simp only [onO_nx, onO_rt, onO_bad, onO_out, onO_ite, on_ite, onO_seq, onO_skip, onO_if, onO_ret, onO_set, onO_ex, onO_for, on_bindI, on_okI, on_badI, fCall, fCons, fNil, fPv, fC, fOp, fTest, fNotT, fAndT, fOrT, fAndV, fOrV, fNotV, fIf, fTup, fLst, fLstM, fSl, fPart, fNoP, fMethL, fNeg, fPut, fPar, fAsg, fYes, List.getElem?_cons_zero, List.getElem?_cons_succ, List.set_cons_zero, List.set_cons_succ, List.map_cons, List.map_nil, List.nil_append, List.cons_append, List.length_cons, List.length_nil, List.reduceReplicate, Nat.reduceSub, Nat.reduceAdd, Nat.zero_add, Bool.not_true, Bool.not_false, if_true, if_false, reduceIte, Bool.false_eq_true, reduceCtorEq, datas, Option.map_some, Option.bind_some, e_add, e_sub, e_lt, e_le, e_gt, e_ge, e_eqI, e_eqB, e_neI, e_neT, e_lenL, e_lenT, ixN43, ixN42, ixN41, ixN10, decide_true, decide_false]
    rw [e_mod (by omega)]
    try simp only [onO_nx, onO_rt, onO_bad, onO_out, onO_ite, on_ite, onO_seq, onO_skip, onO_if, onO_ret, onO_set, onO_ex, onO_for, on_bindI, on_okI, on_badI, fCall, fCons, fNil, fPv, fC, fOp, fTest, fNotT, fAndT, fOrT, fAndV, fOrV, fNotV, fIf, fTup, fLst, fLstM, fSl, fPart, fNoP, fMethL, fNeg, fPut, fPar, fAsg, fYes, List.getElem?_cons_zero, List.getElem?_cons_succ, List.set_cons_zero, List.set_cons_succ, List.map_cons, List.map_nil, List.nil_append, List.cons_append, List.length_cons, List.length_nil, List.reduceReplicate, Nat.reduceSub, Nat.reduceAdd, Nat.zero_add, Bool.not_true, Bool.not_false, if_true, if_false, reduceIte, Bool.false_eq_true, reduceCtorEq, datas, Option.map_some, Option.bind_some, e_add, e_sub, e_lt, e_le, e_gt, e_ge, e_eqI, e_eqB, e_neI, e_neT, e_lenL, e_lenT, ixN43, ixN42, ixN41, ixN10, decide_true, decide_false]
    rw [ixL g1 (by rfl)]
    try simp only [onO_nx, onO_rt, onO_bad, onO_out, onO_ite, on_ite, onO_seq, onO_skip, onO_if, onO_ret, onO_set, onO_ex, onO_for, on_bindI, on_okI, on_badI, fCall, fCons, fNil, fPv, fC, fOp, fTest, fNotT, fAndT, fOrT, fAndV, fOrV, fNotV, fIf, fTup, fLst, fLstM, fSl, fPart, fNoP, fMethL, fNeg, fPut, fPar, fAsg, fYes, List.getElem?_cons_zero, List.getElem?_cons_succ, List.set_cons_zero, List.set_cons_succ, List.map_cons, List.map_nil, List.nil_append, List.cons_append, List.length_cons, List.length_nil, List.reduceReplicate, Nat.reduceSub, Nat.reduceAdd, Nat.zero_add, Bool.not_true, Bool.not_false, if_true, if_false, reduceIte, Bool.false_eq_true, reduceCtorEq, datas, Option.map_some, Option.bind_some, e_add, e_sub, e_lt, e_le, e_gt, e_ge, e_eqI, e_eqB, e_neI, e_neT, e_lenL, e_lenT, ixN43, ixN42, ixN41, ixN10, decide_true, decide_false]
    rw [e_fdiv (by omega) (by omega)]
    try simp only [onO_nx, onO_rt, onO_bad, onO_out, onO_ite, on_ite, onO_seq, onO_skip, onO_if, onO_ret, onO_set, onO_ex, onO_for, on_bindI, on_okI, on_badI, fCall, fCons, fNil, fPv, fC, fOp, fTest, fNotT, fAndT, fOrT, fAndV, fOrV, fNotV, fIf, fTup, fLst, fLstM, fSl, fPart, fNoP, fMethL, fNeg, fPut, fPar, fAsg, fYes, List.getElem?_cons_zero, List.getElem?_cons_succ, List.set_cons_zero, List.set_cons_succ, List.map_cons, List.map_nil, List.nil_append, List.cons_append, List.length_cons, List.length_nil, List.reduceReplicate, Nat.reduceSub, Nat.reduceAdd, Nat.zero_add, Bool.not_true, Bool.not_false, if_true, if_false, reduceIte, Bool.false_eq_true, reduceCtorEq, datas, Option.map_some, Option.bind_some, e_add, e_sub, e_lt, e_le, e_gt, e_ge, e_eqI, e_eqB, e_neI, e_neT, e_lenL, e_lenT, ixN43, ixN42, ixN41, ixN10, decide_true, decide_false, g1]
    rw [← hM1, put_put]
    exact fin _ _ _ (Int.emod_nonneg _ (by omega)) (Int.emod_lt_of_pos _ (by omega)) h2 (Int.ediv_nonneg h3 (by omega))
  · simp only [hl, decide_false, Bool.false_eq_true, if_false]
    rw [ixL g1 (by rfl)]
    try simp only [onO_nx, onO_rt, onO_bad, onO_out, onO_ite, on_ite, onO_seq, onO_skip, onO_if, onO_ret, onO_set, onO_ex, onO_for, on_bindI, on_okI, on_badI, fCall, fCons, fNil, fPv, fC, fOp, fTest, fNotT, fAndT, fOrT, fAndV, fOrV, fNotV, fIf, fTup, fLst, fLstM, fSl, fPart, fNoP, fMethL, fNeg, fPut, fPar, fAsg, fYes, List.getElem?_cons_zero, List.getElem?_cons_succ, List.set_cons_zero, List.set_cons_succ, List.map_cons, List.map_nil, List.nil_append, List.cons_append, List.length_cons, List.length_nil, List.reduceReplicate, Nat.reduceSub, Nat.reduceAdd, Nat.zero_add, Bool.not_true, Bool.not_false, if_true, if_false, reduceIte, Bool.false_eq_true, reduceCtorEq, datas, Option.map_some, Option.bind_some, e_add, e_sub, e_lt, e_le, e_gt, e_ge, e_eqI, e_eqB, e_neI, e_neT, e_lenL, e_lenT, ixN43, ixN42, ixN41, ixN10, decide_true, decide_false, show (0 : Nat) ≤ sizeLine from Nat.zero_le _]
    rw [e_neD (by rw [lk_shaped, show SeqAt.shaped (.list []) = true from lk_shaped []]; rfl), ns_empty]
    try simp only [onO_nx, onO_rt, onO_bad, onO_out, onO_ite, on_ite, onO_seq, onO_skip, onO_if, onO_ret, onO_set, onO_ex, onO_for, on_bindI, on_okI, on_badI, fCall, fCons, fNil, fPv, fC, fOp, fTest, fNotT, fAndT, fOrT, fAndV, fOrV, fNotV, fIf, fTup, fLst, fLstM, fSl, fPart, fNoP, fMethL, fNeg, fPut, fPar, fAsg, fYes, List.getElem?_cons_zero, List.getElem?_cons_succ, List.set_cons_zero, List.set_cons_succ, List.map_cons, List.map_nil, List.nil_append, List.cons_append, List.length_cons, List.length_nil, List.reduceReplicate, Nat.reduceSub, Nat.reduceAdd, Nat.zero_add, Bool.not_true, Bool.not_false, if_true, if_false, reduceIte, Bool.false_eq_true, reduceCtorEq, datas, Option.map_some, Option.bind_some, e_add, e_sub, e_lt, e_le, e_gt, e_ge, e_eqI, e_eqB, e_neI, e_neT, e_lenL, e_lenT, ixN43, ixN42, ixN41, ixN10, decide_true, decide_false]
    by_cases hns : ns = []
    · simp only [hns, List.isEmpty_nil, Bool.not_true, Bool.false_eq_true, if_false]
      rw [← hM1]
      exact draw_tail h0 m1 m2 hn h2 h3 h4 h5 fin 5
    · have he : ns.isEmpty = false := by simpa using hns
      simp only [he, Bool.not_false, if_true]
      rw [ixL g1 (by rfl)]
      try simp only [onO_nx, onO_rt, onO_bad, onO_out, onO_ite, on_ite, onO_seq, onO_skip, onO_if, onO_ret, onO_set, onO_ex, onO_for, on_bindI, on_okI, on_badI, fCall, fCons, fNil, fPv, fC, fOp, fTest, fNotT, fAndT, fOrT, fAndV, fOrV, fNotV, fIf, fTup, fLst, fLstM, fSl, fPart, fNoP, fMethL, fNeg, fPut, fPar, fAsg, fYes, List.getElem?_cons_zero, List.getElem?_cons_succ, List.set_cons_zero, List.set_cons_succ, List.map_cons, List.map_nil, List.nil_append, List.cons_append, List.length_cons, List.length_nil, List.reduceReplicate, Nat.reduceSub, Nat.reduceAdd, Nat.zero_add, Bool.not_true, Bool.not_false, if_true, if_false, reduceIte, Bool.false_eq_true, reduceCtorEq, datas, Option.map_some, Option.bind_some, e_add, e_sub, e_lt, e_le, e_gt, e_ge, e_eqI, e_eqB, e_neI, e_neT, e_lenL, e_lenT, ixN43, ixN42, ixN41, ixN10, decide_true, decide_false]
      rw [ixL g1 (by rfl)]
      try simp only [onO_nx, onO_rt, onO_bad, onO_out, onO_ite, on_ite, onO_seq, onO_skip, onO_if, onO_ret, onO_set, onO_ex, onO_for, on_bindI, on_okI, on_badI, fCall, fCons, fNil, fPv, fC, fOp, fTest, fNotT, fAndT, fOrT, fAndV, fOrV, fNotV, fIf, fTup, fLst, fLstM, fSl, fPart, fNoP, fMethL, fNeg, fPut, fPar, fAsg, fYes, List.getElem?_cons_zero, List.getElem?_cons_succ, List.set_cons_zero, List.set_cons_succ, List.map_cons, List.map_nil, List.nil_append, List.cons_append, List.length_cons, List.length_nil, List.reduceReplicate, Nat.reduceSub, Nat.reduceAdd, Nat.zero_add, Bool.not_true, Bool.not_false, if_true, if_false, reduceIte, Bool.false_eq_true, reduceCtorEq, datas, Option.map_some, Option.bind_some, e_add, e_sub, e_lt, e_le, e_gt, e_ge, e_eqI, e_eqB, e_neI, e_neT, e_lenL, e_lenT, ixN43, ixN42, ixN41, ixN10, decide_true, decide_false]
      rw [ixL g1 (by rfl)]
      try simp only [onO_nx, onO_rt, onO_bad, onO_out, onO_ite, on_ite, onO_seq, onO_skip, onO_if, onO_ret, onO_set, onO_ex, onO_for, on_bindI, on_okI, on_badI, fCall, fCons, fNil, fPv, fC, fOp, fTest, fNotT, fAndT, fOrT, fAndV, fOrV, fNotV, fIf, fTup, fLst, fLstM, fSl, fPart, fNoP, fMethL, fNeg, fPut, fPar, fAsg, fYes, List.getElem?_cons_zero, List.getElem?_cons_succ, List.set_cons_zero, List.set_cons_succ, List.map_cons, List.map_nil, List.nil_append, List.cons_append, List.length_cons, List.length_nil, List.reduceReplicate, Nat.reduceSub, Nat.reduceAdd, Nat.zero_add, Bool.not_true, Bool.not_false, if_true, if_false, reduceIte, Bool.false_eq_true, reduceCtorEq, datas, Option.map_some, Option.bind_some, e_add, e_sub, e_lt, e_le, e_gt, e_ge, e_eqI, e_eqB, e_neI, e_neT, e_lenL, e_lenT, ixN43, ixN42, ixN41, ixN10, decide_true, decide_false]
      have zl : (0 : Int) < ((ns.map PyData.int).length : Nat) := by
        have := List.length_pos_iff.mpr hns
        rw [List.length_map]
        omega
      rw [e_mod zl]
      try simp only [onO_nx, onO_rt, onO_bad, onO_out, onO_ite, on_ite, onO_seq, onO_skip, onO_if, onO_ret, onO_set, onO_ex, onO_for, on_bindI, on_okI, on_badI, fCall, fCons, fNil, fPv, fC, fOp, fTest, fNotT, fAndT, fOrT, fAndV, fOrV, fNotV, fIf, fTup, fLst, fLstM, fSl, fPart, fNoP, fMethL, fNeg, fPut, fPar, fAsg, fYes, List.getElem?_cons_zero, List.getElem?_cons_succ, List.set_cons_zero, List.set_cons_succ, List.map_cons, List.map_nil, List.nil_append, List.cons_append, List.length_cons, List.length_nil, List.reduceReplicate, Nat.reduceSub, Nat.reduceAdd, Nat.zero_add, Bool.not_true, Bool.not_false, if_true, if_false, reduceIte, Bool.false_eq_true, reduceCtorEq, datas, Option.map_some, Option.bind_some, e_add, e_sub, e_lt, e_le, e_gt, e_ge, e_eqI, e_eqB, e_neI, e_neT, e_lenL, e_lenT, ixN43, ixN42, ixN41, ixN10, decide_true, decide_false]
      obtain ⟨d, e1, e2⟩ := at_in (xs := ns.map PyData.int) (r := i % ((ns.map PyData.int).length : Nat)) (Int.emod_nonneg _ (by omega)) (Int.emod_lt_of_pos _ zl)
      rw [ixLd e1]
      try simp only [onO_nx, onO_rt, onO_bad, onO_out, onO_ite, on_ite, onO_seq, onO_skip, onO_if, onO_ret, onO_set, onO_ex, onO_for, on_bindI, on_okI, on_badI, fCall, fCons, fNil, fPv, fC, fOp, fTest, fNotT, fAndT, fOrT, fAndV, fOrV, fNotV, fIf, fTup, fLst, fLstM, fSl, fPart, fNoP, fMethL, fNeg, fPut, fPar, fAsg, fYes, List.getElem?_cons_zero, List.getElem?_cons_succ, List.set_cons_zero, List.set_cons_succ, List.map_cons, List.map_nil, List.nil_append, List.cons_append, List.length_cons, List.length_nil, List.reduceReplicate, Nat.reduceSub, Nat.reduceAdd, Nat.zero_add, Bool.not_true, Bool.not_false, if_true, if_false, reduceIte, Bool.false_eq_true, reduceCtorEq, datas, Option.map_some, Option.bind_some, e_add, e_sub, e_lt, e_le, e_gt, e_ge, e_eqI, e_eqB, e_neI, e_neT, e_lenL, e_lenT, ixN43, ixN42, ixN41, ixN10, decide_true, decide_false]
      rw [List.getElem?_map] at e2
      cases e3 : ns[(i % ((ns.map PyData.int).length : Nat)).toNat]? with
      | none => rw [e3] at e2; cases e2
      | some v =>
        rw [e3] at e2
        cases e2
        rw [← hM1]
        exact draw_tail h0 m1 m2 hn h2 h3 h4 h5 fin v
end Fu

set_option Elab.async false
set_option linter.all false
set_option maxRecDepth 100000
set_option maxHeartbeats 1000000
/-! Drawn plains, trees. -/
namespace Fu
open PySem PySem.Spec PyProof.Rows L2 Dat LamX PySem.W
def PL : List PyData := [.int 0, .int 1, .int 2, .int (-1), .bool true, .bool false, .str "a", .str "", .str "1", .str "yes", .str "b2", .int 999999, .int (-40), .int 1]
def WL : List Str := ["a", "b", "k", "kk", "x", "yes"]
def pairD (e : Str × PyData) : PyData := .tuple [.str e.1, e.2]
def treeD (es : List (Str × PyData)) : PyData := .tuple [.str "tree", .tuple (es.map pairD)]
def rowD (ds : List PyData) : PyData := .tuple [.str "row", .tuple ds]
/-- one that forgets what is new, where nothing is -/
theorem fin_drop {S : List Nat} {M M' : Sto} {d : PyData} {p : Wv → Sto → Prop} (fr : Fr S M M') (fl : Flat M') (h : p (.d d) M') : DropP M p (.d d) M' :=
  ⟨d, rfl, by rw [fr.len]; exact Nat.le_refl _, fl, by rw [List.take_of_length_le (by rw [fr.len]; exact Nat.le_refl _)]; exact h⟩
theorem fin_back {S S' : List Nat} {M M' more : Sto} {d : PyData} {p : Wv → Sto → Prop} (fr : Fr S (M ++ more) M') (fl : Flat M') (hS : ∀ x ∈ S, x < M.length → x ∈ S') (h : Fr S' M (M'.take M.length) → Flat (M'.take M.length) → p (.d d) (M'.take M.length)) :
    DropP M p (.d d) M' :=
  ⟨d, rfl, by rw [fr.len, List.length_append]; omega, fl, h (fr.back' hS) (fl.take _)⟩
theorem plain_on {M : Sto} {f n : Nat} (hf : Feed M f n) (hM : Flat M) (hn : n ≤ 1000000000) :
    (F_lplain [.r f] M).on fun w M' => ∃ d, w = .d d ∧ d ∈ PL ∧ Feed M' f (n + 1) ∧ Fr [f] M M' ∧ Flat M' := by
  unfold F_lplain
  refine drop_on (fn_on rfl ?_)
  unfold B_lplain
  try simp only [onO_nx, onO_rt, onO_bad, onO_out, onO_ite, on_ite, onO_seq, onO_skip, onO_if, onO_ret, onO_set, onO_ex, onO_for, on_bindI, on_okI, on_badI, fCall, fCons, fNil, fPv, fC, fOp, fTest, fNotT, fAndT, fOrT, fAndV, fOrV, fNotV, fIf, fTup, fLst, fLstM, fSl, fPart, fNoP, fMethL, fNeg, fPut, fPar, fAsg, fYes, List.getElem?_cons_zero, List.getElem?_cons_succ, List.set_cons_zero, List.set_cons_succ, List.map_cons, List.map_nil, List.nil_append, List.cons_append, List.length_cons, List.length_nil, List.reduceReplicate, Nat.reduceSub, Nat.reduceAdd, Nat.zero_add, Bool.not_true, Bool.not_false, if_true, if_false, reduceIte, Bool.false_eq_true, reduceCtorEq, datas, Option.map_some, Option.bind_some, e_add, e_sub, e_lt, e_le, e_gt, e_ge, e_eqI, e_eqB, e_neI, e_neT, e_lenL, e_lenT, ixN43, ixN42, ixN41, ixN10, decide_true, decide_false, show (14 : Nat) ≤ sizeLine from by decide]
  refine on_imp (draw_on hf hM (by omega) (by omega) hn) ?_
  rintro _ M1 ⟨r, rfl, r0, r1, fd, fr, fl⟩
  obtain ⟨d, e1, e2⟩ := at_in (xs := PL) r0 (show r < ((PL.length : Nat) : Int) from r1)
  rw [show ([.int 0, .int 1, .int 2, .int (-1), .bool true, .bool false, .str "a", .str "", .str "1", .str "yes", .str "b2", .int 999999, .int (-40), .int 1] : List PyData) = PL from rfl, ixLd e1]
  exact on_okI.mpr (fin_drop fr fl ⟨d, rfl, List.mem_of_getElem? e2, fd, fr, fl⟩)

/-! ### sorted by words -/
theorem perm_pre {α β : Type} {g : α → β} {L M : List β} (h : L.Perm M) : ∀ es : List α, L = es.map g → ∃ fs : List α, M = fs.map g ∧ fs.Perm es := by
  induction h with
  | nil =>
    intro es e
    exact ⟨[], rfl, by cases es with
      | nil => exact .refl _
      | cons a b => cases e⟩
  | cons x p ih =>
    intro es e
    cases es with
    | nil => cases e
    | cons a es =>
      rw [List.map_cons, List.cons.injEq] at e
      obtain ⟨fs, e2, q⟩ := ih es e.2
      exact ⟨a :: fs, by rw [List.map_cons, ← e.1, e2], q.cons a⟩
  | swap x y l =>
    intro es e
    match es, e with
    | a :: b :: es, e =>
      simp only [List.map_cons, List.cons.injEq] at e
      exact ⟨b :: a :: es, by simp only [List.map_cons, e.1, e.2.1, e.2.2], .swap _ _ _⟩
  | trans p q ih1 ih2 =>
    intro es e
    obtain ⟨fs, e1, q1⟩ := ih1 es e
    obtain ⟨gs, e2, q2⟩ := ih2 fs e1
    exact ⟨gs, e2, q2.trans q1⟩
theorem str_ext {x y : Str} (h : x.cps.toList = y.cps.toList) : x = y := by
  obtain ⟨a⟩ := x
  obtain ⟨b⟩ := y
  have e : a = b := by
    have := congrArg List.toArray h
    simpa using this
  rw [e]
def Rise (es : List (Str × PyData)) : Prop := (es.map (·.1)).Pairwise fun x y => x.cps.toList < y.cps.toList
theorem keyed_fields {es : List (Str × PyData)} (hn : (es.map (·.1)).Nodup) : ∃ fs : List (Str × PyData), keyedD (es.map pairD) (es.map fun e => PyData.str e.1) = fs.map pairD ∧ fs.Perm es ∧ Rise fs := by
  have tot : TotalLe (dataLe (β := PyData × PyData) false Prod.snd) := sortLe_total _ _ _
  have ez : (es.map pairD).zip (es.map fun e => PyData.str e.1) = es.map fun e => (pairD e, PyData.str e.1) := by
    clear hn
    induction es with
    | nil => rfl
    | cons e es ih => simp only [List.map_cons, List.zip_cons_cons, ih]
  obtain ⟨fs, e1, p1⟩ := perm_pre (List.mergeSort_perm ((es.map pairD).zip (es.map fun e => PyData.str e.1)) (dataLe false Prod.snd)).symm es ez
  refine ⟨fs, ?_, p1, ?_⟩
  · unfold keyedD
    rw [e1, List.map_map]
    rfl
  · have pw := List.pairwise_mergeSort tot.trans (fun a b => by rw [Bool.or_eq_true]; exact tot.total a b) ((es.map pairD).zip (es.map fun e => PyData.str e.1))
    rw [e1, List.pairwise_map] at pw
    have nd : (fs.map (·.1)).Nodup := (p1.map _).nodup_iff.mpr hn
    unfold Rise
    rw [List.pairwise_map]
    rw [List.Nodup, List.pairwise_map] at nd
    refine (pw.and nd).imp fun {a b} z => ?_
    obtain ⟨z1, z2⟩ := z
    rw [dataLe_eq] at z1
    simp only [cond_false, dataLt_str, Bool.not_eq_true', decide_eq_false_iff_not] at z1
    by_cases q : a.1.cps.toList < b.1.cps.toList
    · exact q
    · exact absurd (str_ext (List.le_antisymm (List.not_lt.mp z1) (List.not_lt.mp q))) z2
theorem keys_pairs : ∀ es : List (Str × PyData), keysAt 0 (es.map pairD) = some (es.map fun e => PyData.str e.1)
  | [] => rfl
  | e :: es => by
    rw [List.map_cons, keysAt, keys_pairs es]
    rfl
theorem sort_ok (es : List (Str × PyData)) : SortOk (es.map fun e => PyData.str e.1) := by
  have a1 : AllAlike (es.map fun e => PyData.str e.1) := AllAlike.of fun _ _ => rfl
  have a2 : Sortable (es.map fun e => PyData.str e.1) := Sortable.others fun _ => ⟨(fun z => by cases z), (fun _ z => by cases z)⟩
  refine ⟨SortK.data a1 a2, fun d hd => ?_⟩
  obtain ⟨e, _, rfl⟩ := List.mem_map.mp hd
  simp [PyData.depth]
theorem datas_d : ∀ ds : List PyData, datas (ds.map Wv.d) = some ds
  | [] => rfl
  | d :: ds => by rw [List.map_cons, datas, datas_d ds]; rfl
theorem erase_map {α β : Type} (g : α → β) : ∀ (l : List α) (k : Nat), (l.map g).eraseIdx k = (l.eraseIdx k).map g
  | [], _ => rfl
  | _ :: _, 0 => rfl
  | x :: l, k + 1 => by rw [List.map_cons, List.eraseIdx_cons_succ, List.eraseIdx_cons_succ, List.map_cons, erase_map g l k]
theorem erase_perm {α : Type} : ∀ (l : List α) (k : Nat) (h : k < l.length), (l[k] :: l.eraseIdx k).Perm l
  | x :: l, 0, _ => .refl _
  | x :: l, k + 1, h => by
    rw [List.eraseIdx_cons_succ, List.getElem_cons_succ]
    exact (List.Perm.swap _ _ _).trans ((erase_perm l k (by simpa using h)).cons x)
theorem seq_at {n : Nat} {r : Int} (h0 : 0 ≤ r) (h1 : r < (n : Int)) : seqIndex? r n = some r.toNat := (ixN_seq (by
  unfold ixN
  rw [if_pos h0, if_pos h1])).1
def strOb (ws : List Str) : Ob := .lst (ws.map fun x => Wv.d (.str x))
theorem strOb_fl (ws : List Str) : (strOb ws).fl := fun w hw => by
  obtain ⟨x, _, rfl⟩ := List.mem_map.mp hw
  exact ⟨_, rfl⟩
/-- a walk over a list of data -/
theorem its_at {ds : List PyData} {i : Nat} {it : Itm} (h : ((ds.map Wv.d).map Itm.one)[i]? = some it) : ∃ d, ds[i]? = some d ∧ it = .one (.d d) := by
  rw [List.getElem?_map, List.getElem?_map] at h
  cases e : ds[i]? with
  | none => rw [e] at h; cases h
  | some d => rw [e] at h; cases h; exact ⟨d, rfl, rfl⟩
theorem take_succ_at {α : Type} {xs : List α} {i : Nat} {x : α} (h : xs[i]? = some x) : xs.take (i + 1) = xs.take i ++ [x] := by
  rw [List.take_add_one, h]
  rfl
/-- a list walked: data, or one of the store -/
def WLs (M : Sto) (w : Wv) (ds : List PyData) (l : Option Nat) : Prop := (w = .d (.list ds) ∧ l = none) ∨ ∃ i, w = .r i ∧ l = some i ∧ M[i]? = some (.lst (ds.map .d))
theorem tree_on {M : Sto} {f n : Nat} {w : Wv} {ds : List PyData} {l : Option Nat} (hf : Feed M f n) (hM : Flat M) (hn : n + 10 ≤ 1000000000) (hw : WLs M w ds l) (hl : l ≠ some f) (h5 : ds.length ≤ 5) :
    (F_ltree [.r f, w] M).on fun u M' => ∃ fs : List (Str × PyData), u = .d (treeD fs) ∧ (fs.map (·.2)).Perm ds ∧ (∀ e ∈ fs, e.1 ∈ WL) ∧ Rise fs ∧ Feed M' f (n + 5) ∧ Fr [f] M M' ∧ Flat M' := by
  unfold F_ltree
  refine drop_on (fn_on rfl ?_)
  unfold B_ltree
  try simp only [onO_nx, onO_rt, onO_bad, onO_out, onO_ite, on_ite, onO_seq, onO_skip, onO_if, onO_ret, onO_set, onO_ex, onO_for, on_bindI, on_okI, on_badI, fCall, fCons, fNil, fPv, fC, fOp, fTest, fNotT, fAndT, fOrT, fAndV, fOrV, fNotV, fIf, fTup, fLst, fLstM, fSl, fPart, fNoP, fMethL, fNeg, fPut, fPar, fAsg, fYes, List.getElem?_cons_zero, List.getElem?_cons_succ, List.set_cons_zero, List.set_cons_succ, List.map_cons, List.map_nil, List.nil_append, List.cons_append, List.length_cons, List.length_nil, List.reduceReplicate, Nat.reduceSub, Nat.reduceAdd, Nat.zero_add, Bool.not_true, Bool.not_false, if_true, if_false, reduceIte, Bool.false_eq_true, reduceCtorEq, datas, Option.map_some, Option.bind_some, e_add, e_sub, e_lt, e_le, e_gt, e_ge, e_eqI, e_eqB, e_neI, e_neT, e_lenL, e_lenT, ixN43, ixN42, ixN41, ixN10, decide_true, decide_false, show (6 : Nat) ≤ sizeLine from by decide]
  have eP : ([.d (.str "a"), .d (.str "b"), .d (.str "k"), .d (.str "kk"), .d (.str "x"), .d (.str "yes")] : List Wv) = WL.map fun x => Wv.d (.str x) := rfl
  rw [eP]
  generalize hP : M.length = P
  have hMP : Flat (M ++ [strOb WL]) := hM.app (strOb_fl _)
  have fP : Feed (M ++ [strOb WL]) f n := hf.app
  have gP : (M ++ [strOb WL])[P]? = some (strOb WL) := by rw [← hP]; exact at_new
  have nfP : f ≠ P := by have := hf.lt; omega
  show ((fLc (fiL (fPv 1)) (.nm 4) fYes (fTup (fCons (fMethL oPopAt (fPv 2) (fCons (fCall F_ldraw (fCons (fPv 0) (fCons (fCall oLen (fCons (fPv 2) fNil)) fNil))) fNil)) (fCons (fPv 4) fNil))) [4]) [some (.r f), some w, some (.r P), none, none] (M ++ [strOb WL])).on _
  unfold fLc
  rw [on_bindI]
  have walk : (fiL (fPv 1) [some (.r f), some w, some (.r P), none, none] (M ++ [strOb WL])).on fun I M1 => M1 = M ++ [strOb WL] ∧ I.its = (ds.map Wv.d).map Itm.one ∧ ∀ M2, Fr [f, P] (M ++ [strOb WL]) M2 → okG I.gd M2 := by
    unfold fiL
    try simp only [onO_nx, onO_rt, onO_bad, onO_out, onO_ite, on_ite, onO_seq, onO_skip, onO_if, onO_ret, onO_set, onO_ex, onO_for, on_bindI, on_okI, on_badI, fCall, fCons, fNil, fPv, fC, fOp, fTest, fNotT, fAndT, fOrT, fAndV, fOrV, fNotV, fIf, fTup, fLst, fLstM, fSl, fPart, fNoP, fMethL, fNeg, fPut, fPar, fAsg, fYes, List.getElem?_cons_zero, List.getElem?_cons_succ, List.set_cons_zero, List.set_cons_succ, List.map_cons, List.map_nil, List.nil_append, List.cons_append, List.length_cons, List.length_nil, List.reduceReplicate, Nat.reduceSub, Nat.reduceAdd, Nat.zero_add, Bool.not_true, Bool.not_false, if_true, if_false, reduceIte, Bool.false_eq_true, reduceCtorEq, datas, Option.map_some, Option.bind_some, e_add, e_sub, e_lt, e_le, e_gt, e_ge, e_eqI, e_eqB, e_neI, e_neT, e_lenL, e_lenT, ixN43, ixN42, ixN41, ixN10, decide_true, decide_false]
    rcases hw with ⟨rfl, _⟩ | ⟨i, rfl, e1, e2⟩
    · exact ⟨rfl, rfl, fun _ _ => trivial⟩
    · simp only [at_old e2, on_okI]
      refine ⟨trivial, trivial, fun M2 fr => ?_⟩
      have hi : i < M.length := at_lt e2
      refine fr.get (at_old e2) ?_
      simp only [List.mem_cons, List.not_mem_nil, or_false, not_or]
      exact ⟨fun z => hl (by rw [e1, z]), by omega⟩
  refine on_imp walk ?_
  rintro I _ ⟨rfl, eI, ok⟩
  rw [on_bindI, eI]
  refine lc_on (fun i M1 acc => ∃ (rest : List Str) (es : List (Str × PyData)), Feed M1 f (n + i) ∧ M1[P]? = some (strOb rest) ∧ acc = es.map pairD ∧ es.map (·.2) = ds.take i ∧ (es.map (·.1) ++ rest).Perm WL ∧ Fr [f, P] (M ++ [strOb WL]) M1 ∧ Flat M1) ?st ?fin
    ⟨WL, [], fP, gP, rfl, by simp, .refl _, .refl _ _, hMP⟩
  case st =>
    rintro i it M1 acc hi ⟨rest, es, fd, hp, rfl, em, pm, fr, fl⟩
    obtain ⟨d, hd, rfl⟩ := its_at hi
    have hlt : i < ds.length := (List.getElem?_eq_some_iff.mp hd).1
    refine ⟨ok M1 fr, _, rfl, ?_⟩
    have el : es.length = i := by
      have := congrArg List.length em
      rw [List.length_map, List.length_take] at this
      omega
    have rl : es.length + rest.length = 6 := by
      have := pm.length_eq
      rw [List.length_append, List.length_map] at this
      exact this
    try simp only [onO_nx, onO_rt, onO_bad, onO_out, onO_ite, on_ite, onO_seq, onO_skip, onO_if, onO_ret, onO_set, onO_ex, onO_for, on_bindI, on_okI, on_badI, fCall, fCons, fNil, fPv, fC, fOp, fTest, fNotT, fAndT, fOrT, fAndV, fOrV, fNotV, fIf, fTup, fLst, fLstM, fSl, fPart, fNoP, fMethL, fNeg, fPut, fPar, fAsg, fYes, List.getElem?_cons_zero, List.getElem?_cons_succ, List.set_cons_zero, List.set_cons_succ, List.map_cons, List.map_nil, List.nil_append, List.cons_append, List.length_cons, List.length_nil, List.reduceReplicate, Nat.reduceSub, Nat.reduceAdd, Nat.zero_add, Bool.not_true, Bool.not_false, if_true, if_false, reduceIte, Bool.false_eq_true, reduceCtorEq, datas, Option.map_some, Option.bind_some, e_add, e_sub, e_lt, e_le, e_gt, e_ge, e_eqI, e_eqB, e_neI, e_neT, e_lenL, e_lenT, ixN43, ixN42, ixN41, ixN10, decide_true, decide_false, wipeD, lstW, lsv, hp, strOb, Option.isSome_some]
    have eL : oLen [.r P] M1 = .ok (.d (.int (rest.length : Nat))) M1 := by
      simp only [oLen, sqv, lsv, hp, strOb, List.length_map]
    rw [eL]
    try simp only [onO_nx, onO_rt, onO_bad, onO_out, onO_ite, on_ite, onO_seq, onO_skip, onO_if, onO_ret, onO_set, onO_ex, onO_for, on_bindI, on_okI, on_badI, fCall, fCons, fNil, fPv, fC, fOp, fTest, fNotT, fAndT, fOrT, fAndV, fOrV, fNotV, fIf, fTup, fLst, fLstM, fSl, fPart, fNoP, fMethL, fNeg, fPut, fPar, fAsg, fYes, List.getElem?_cons_zero, List.getElem?_cons_succ, List.set_cons_zero, List.set_cons_succ, List.map_cons, List.map_nil, List.nil_append, List.cons_append, List.length_cons, List.length_nil, List.reduceReplicate, Nat.reduceSub, Nat.reduceAdd, Nat.zero_add, Bool.not_true, Bool.not_false, if_true, if_false, reduceIte, Bool.false_eq_true, reduceCtorEq, datas, Option.map_some, Option.bind_some, e_add, e_sub, e_lt, e_le, e_gt, e_ge, e_eqI, e_eqB, e_neI, e_neT, e_lenL, e_lenT, ixN43, ixN42, ixN41, ixN10, decide_true, decide_false]
    refine on_imp (draw_on fd fl (by omega) (by omega) (by omega)) ?_
    rintro _ M2 ⟨r, rfl, r0, r1, fd2, fr2, fl2⟩
    have hp2 : M2[P]? = some (strOb rest) := fr2.get hp (by simpa using nfP.symm)
    have hk : r.toNat < rest.length := by omega
    have e1 : (rest.map fun x => Wv.d (.str x))[r.toNat]? = some (.d (.str rest[r.toNat])) := by rw [List.getElem?_map, List.getElem?_eq_getElem hk]; rfl
    have e3 : oPopAt (.r P) [.d (.int r)] M2 = .ok (.d (.str rest[r.toNat])) (setL M2 P ((rest.eraseIdx r.toNat).map fun x => Wv.d (.str x))) := by
      simp only [oPopAt, hp2, strOb, List.length_map, seq_at r0 r1, e1, erase_map]
      rw [if_pos (by omega)]
    rw [e3]
    try simp only [onO_nx, onO_rt, onO_bad, onO_out, onO_ite, on_ite, onO_seq, onO_skip, onO_if, onO_ret, onO_set, onO_ex, onO_for, on_bindI, on_okI, on_badI, fCall, fCons, fNil, fPv, fC, fOp, fTest, fNotT, fAndT, fOrT, fAndV, fOrV, fNotV, fIf, fTup, fLst, fLstM, fSl, fPart, fNoP, fMethL, fNeg, fPut, fPar, fAsg, fYes, List.getElem?_cons_zero, List.getElem?_cons_succ, List.set_cons_zero, List.set_cons_succ, List.map_cons, List.map_nil, List.nil_append, List.cons_append, List.length_cons, List.length_nil, List.reduceReplicate, Nat.reduceSub, Nat.reduceAdd, Nat.zero_add, Bool.not_true, Bool.not_false, if_true, if_false, reduceIte, Bool.false_eq_true, reduceCtorEq, datas, Option.map_some, Option.bind_some, e_add, e_sub, e_lt, e_le, e_gt, e_ge, e_eqI, e_eqB, e_neI, e_neT, e_lenL, e_lenT, ixN43, ixN42, ixN41, ixN10, decide_true, decide_false, show (2 : Nat) ≤ sizeLine from by decide]
    refine ⟨_, rfl, Nat.lt_of_le_of_lt (show (es.map pairD).length ≤ 5 by rw [List.length_map]; omega) (by decide), rest.eraseIdx r.toNat, es ++ [(rest[r.toNat], d)], ?_, put4 hp2, ?_, ?_, ?_, ?_, fl2.set (strOb_fl _)⟩
    · exact fd2.fr (S := [P]) (Fr.set (by simp)) (by simpa using nfP)
    · rw [List.map_append]; rfl
    · rw [List.map_append, em, take_succ_at hd]; rfl
    · have h1 : (es.map (·.1) ++ (rest[r.toNat] :: rest.eraseIdx r.toNat)).Perm WL := ((erase_perm rest r.toNat hk).append_left _).trans pm
      rw [List.map_append, List.append_assoc]
      exact h1
    · exact fr.trans ((fr2.wide (by simp)).trans (Fr.set (by simp)))
  case fin =>
    rintro M1 acc ⟨rest, es, fd, hp, rfl, em, pm, fr, fl⟩
    have ei : ((ds.map Wv.d).map Itm.one).length = ds.length := by rw [List.length_map, List.length_map]
    rw [ei, List.take_length] at em
    rw [ei] at fd
    refine ⟨ok M1 fr, ?_⟩
    have nd : (es.map (·.1)).Nodup := (List.nodup_append.mp (pm.nodup_iff.mpr (by decide +kernel))).1
    obtain ⟨fs, k1, k2, k3⟩ := keyed_fields nd
    try simp only [onO_nx, onO_rt, onO_bad, onO_out, onO_ite, on_ite, onO_seq, onO_skip, onO_if, onO_ret, onO_set, onO_ex, onO_for, on_bindI, on_okI, on_badI, fCall, fCons, fNil, fPv, fC, fOp, fTest, fNotT, fAndT, fOrT, fAndV, fOrV, fNotV, fIf, fTup, fLst, fLstM, fSl, fPart, fNoP, fMethL, fNeg, fPut, fPar, fAsg, fYes, List.getElem?_cons_zero, List.getElem?_cons_succ, List.set_cons_zero, List.set_cons_succ, List.map_cons, List.map_nil, List.nil_append, List.cons_append, List.length_cons, List.length_nil, List.reduceReplicate, Nat.reduceSub, Nat.reduceAdd, Nat.zero_add, Bool.not_true, Bool.not_false, if_true, if_false, reduceIte, Bool.false_eq_true, reduceCtorEq, datas, Option.map_some, Option.bind_some, e_add, e_sub, e_lt, e_le, e_gt, e_ge, e_eqI, e_eqB, e_neI, e_neT, e_lenL, e_lenT, ixN43, ixN42, ixN41, ixN10, decide_true, decide_false, fSortIx, lsv, datas_d, keys_pairs, sort_ok, k1, oTuple, show (2 : Nat) ≤ sizeLine from by decide]
    refine fin_back fr fl (S' := [f]) (fun x hx hz => ?_) fun fr' fl' => ⟨fs, rfl, ?_, fun e he => ?_, k3, ?_, fr', fl'⟩
    · simp only [List.mem_cons, List.not_mem_nil, or_false] at hx ⊢
      omega
    · rw [← em]
      exact k2.map _
    · exact pm.subset (List.mem_append_left _ (List.mem_map.mpr ⟨e, k2.subset he, rfl⟩))
    · exact (fd.take hf.lt).up (by omega)
end Fu

set_option Elab.async false
set_option linter.all false
set_option maxRecDepth 100000
set_option maxHeartbeats 1000000
/-! Drawn values, documents. -/
namespace Fu
open PySem PySem.Spec PyProof.Rows L2 Dat LamX PySem.W
mutual
def szD : PyData → Nat
  | .tuple xs => szDs xs + 3
  | .list xs => szDs xs + 3
  | _ => 200
def szDs : List PyData → Nat
  | [] => 0
  | x :: xs => szD x + 2 + szDs xs
end
theorem szDs_app : ∀ (xs ys : List PyData), szDs (xs ++ ys) = szDs xs + szDs ys
  | [], ys => by simp [szDs]
  | x :: xs, ys => by
    rw [List.cons_append, szDs, szDs, szDs_app xs ys]
    omega
theorem szDs_perm {xs ys : List PyData} (h : xs.Perm ys) : szDs xs = szDs ys := by
  induction h with
  | nil => rfl
  | cons x _ ih => rw [szDs, szDs, ih]
  | swap x y l => simp only [szDs]; omega
  | trans _ _ a b => exact a.trans b
theorem sz_row (ds : List PyData) : szD (rowD ds) = szDs ds + 210 := by simp only [rowD, szD, szDs]; omega
theorem sz_pairs : ∀ es : List (Str × PyData), szDs (es.map pairD) = szDs (es.map (·.2)) + 207 * es.length
  | [] => rfl
  | e :: es => by
    rw [List.map_cons, List.map_cons, szDs, szDs, sz_pairs es, List.length_cons]
    simp only [pairD, szD, szDs]
    omega
theorem sz_tree (es : List (Str × PyData)) : szD (treeD es) = szDs (es.map (·.2)) + 207 * es.length + 210 := by
  have := sz_pairs es
  simp only [treeD, szD, szDs]
  omega
structure FieldsOk (es : List (Str × PyData)) : Prop where
  pool : ∀ e ∈ es, e.1 ∈ WL
  rise : Rise es
inductive VD : Nat → PyData → Prop
  | plain {n : Nat} {d : PyData} : d ∈ PL → VD n d
  | row {n : Nat} {ds : List PyData} : ds.length ≤ 5 → (∀ d ∈ ds, VD n d) → VD (n + 1) (rowD ds)
  | tree {n : Nat} {es : List (Str × PyData)} : es.length ≤ 5 → FieldsOk es → (∀ e ∈ es, VD n e.2) → VD (n + 1) (treeD es)
theorem sz_PL : ∀ d ∈ PL, szD d = 200 := by decide +kernel
def costV : Nat → Nat
  | 0 => 10
  | n + 1 => 20 + 5 * costV n
theorem e_min {i j : Int} {M : Sto} : oMin2 [.d (.int i), .d (.int j)] M = .ok (.d (.int (if j < i then j else i))) M := rfl
theorem rng_at {n i : Nat} {it : Itm} (h : ((rngW 0 n).map Itm.one)[i]? = some it) : i < n ∧ it = .one (.d (.int i)) := by
  unfold rngW at h
  rw [List.getElem?_map, List.getElem?_map] at h
  by_cases hi : i < n
  · rw [List.getElem?_range hi] at h
    cases h
    exact ⟨hi, by simp⟩
  · rw [List.getElem?_eq_none (by simp; omega)] at h
    cases h
theorem rng_len (n : Nat) : ((rngW 0 n).map Itm.one).length = n := by simp [rngW]
theorem value_on {f l : Nat} : ∀ (dp : Nat) {M : Sto} {n : Nat} {k : Int}, Feed M f n → Flat M → n + costV dp ≤ 999999000 → M[l]? = some (.lst [.d (.int k)]) → 1 ≤ k → k ≤ 30 → l ≠ f →
    (F_lvalue (dp + 1) [.r f, .d (.int (dp : Nat)), .r l] M).on fun w M' => ∃ (d : PyData) (k' : Int), w = .d d ∧ VD dp d ∧ 0 ≤ k' ∧ (szD d : Int) + 211 + 430 * k' ≤ 430 * k ∧ Feed M' f (n + costV dp) ∧ M'[l]? = some (.lst [.d (.int k')]) ∧ Fr [f, l] M M' ∧ Flat M' := by
  intro dp
  induction dp with
  | zero =>
    intro M n k hf hM hn hl k1 k2 nlf
    simp only [F_lvalue]
    refine drop_on (fn_on rfl ?_)
    unfold B_lvalue
    try simp only [onO_nx, onO_rt, onO_bad, onO_out, onO_ite, on_ite, onO_seq, onO_skip, onO_if, onO_ret, onO_set, onO_ex, onO_for, on_bindI, on_okI, on_badI, fCall, fCons, fNil, fPv, fC, fOp, fTest, fNotT, fAndT, fOrT, fAndV, fOrV, fNotV, fIf, fTup, fLst, fLstM, fSl, fPart, fNoP, fMethL, fNeg, fPut, fPar, fAsg, fYes, List.getElem?_cons_zero, List.getElem?_cons_succ, List.set_cons_zero, List.set_cons_succ, List.map_cons, List.map_nil, List.nil_append, List.cons_append, List.length_cons, List.length_nil, List.reduceReplicate, Nat.reduceSub, Nat.reduceAdd, Nat.zero_add, Bool.not_true, Bool.not_false, if_true, if_false, reduceIte, Bool.false_eq_true, reduceCtorEq, datas, Option.map_some, Option.bind_some, e_add, e_sub, e_lt, e_le, e_gt, e_ge, e_eqI, e_eqB, e_neI, e_neT, e_lenL, e_lenT, ixN43, ixN42, ixN41, ixN10, decide_true, decide_false]
    rw [ixL hl (by rfl)]
    try simp only [onO_nx, onO_rt, onO_bad, onO_out, onO_ite, on_ite, onO_seq, onO_skip, onO_if, onO_ret, onO_set, onO_ex, onO_for, on_bindI, on_okI, on_badI, fCall, fCons, fNil, fPv, fC, fOp, fTest, fNotT, fAndT, fOrT, fAndV, fOrV, fNotV, fIf, fTup, fLst, fLstM, fSl, fPart, fNoP, fMethL, fNeg, fPut, fPar, fAsg, fYes, List.getElem?_cons_zero, List.getElem?_cons_succ, List.set_cons_zero, List.set_cons_succ, List.map_cons, List.map_nil, List.nil_append, List.cons_append, List.length_cons, List.length_nil, List.reduceReplicate, Nat.reduceSub, Nat.reduceAdd, Nat.zero_add, Bool.not_true, Bool.not_false, if_true, if_false, reduceIte, Bool.false_eq_true, reduceCtorEq, datas, Option.map_some, Option.bind_some, e_add, e_sub, e_lt, e_le, e_gt, e_ge, e_eqI, e_eqB, e_neI, e_neT, e_lenL, e_lenT, ixN43, ixN42, ixN41, ixN10, decide_true, decide_false, hl]
    have f1 : Feed (setL M l [.d (.int (k - 1))]) f n := hf.fr (S := [l]) (Fr.set (by simp)) (by simpa using nlf.symm)
    have fl1 : Flat (setL M l [.d (.int (k - 1))]) := hM.set (by intro w hw; rw [List.mem_singleton.mp hw]; exact ⟨_, rfl⟩)
    have l1 : (setL M l [.d (.int (k - 1))])[l]? = some (.lst [.d (.int (k - 1))]) := put4 hl
    refine on_imp (draw_on f1 fl1 (by omega) (by omega) (by omega)) ?_
    rintro _ M2 ⟨r, rfl, r0, r1, fd2, fr2, fl2⟩
    have end_ : (F_lplain [.r f] M2).on (DropP M fun w M' => ∃ (d : PyData) (k' : Int), w = .d d ∧ VD 0 d ∧ 0 ≤ k' ∧ (szD d : Int) + 211 + 430 * k' ≤ 430 * k ∧ Feed M' f (n + costV 0) ∧ M'[l]? = some (.lst [.d (.int k')]) ∧ Fr [f, l] M M' ∧ Flat M') := by
      refine on_imp (plain_on fd2 fl2 (by omega)) ?_
      rintro _ M3 ⟨d, rfl, hd, fd3, fr3, fl3⟩
      have fr : Fr [f, l] M M3 := (Fr.set (by simp)).trans ((fr2.wide (by simp)).trans (fr3.wide (by simp)))
      refine fin_drop fr fl3 ⟨d, k - 1, rfl, .plain hd, by omega, ?_, fd3.up (by simp [costV]), ?_, fr, fl3⟩
      · rw [sz_PL d hd]; omega
      · exact fr3.get (fr2.get l1 (by simpa using nlf)) (by simpa using nlf)
    try simp only [onO_nx, onO_rt, onO_bad, onO_out, onO_ite, on_ite, onO_seq, onO_skip, onO_if, onO_ret, onO_set, onO_ex, onO_for, on_bindI, on_okI, on_badI, fCall, fCons, fNil, fPv, fC, fOp, fTest, fNotT, fAndT, fOrT, fAndV, fOrV, fNotV, fIf, fTup, fLst, fLstM, fSl, fPart, fNoP, fMethL, fNeg, fPut, fPar, fAsg, fYes, List.getElem?_cons_zero, List.getElem?_cons_succ, List.set_cons_zero, List.set_cons_succ, List.map_cons, List.map_nil, List.nil_append, List.cons_append, List.length_cons, List.length_nil, List.reduceReplicate, Nat.reduceSub, Nat.reduceAdd, Nat.zero_add, Bool.not_true, Bool.not_false, if_true, if_false, reduceIte, Bool.false_eq_true, reduceCtorEq, datas, Option.map_some, Option.bind_some, e_add, e_sub, e_lt, e_le, e_gt, e_ge, e_eqI, e_eqB, e_neI, e_neT, e_lenL, e_lenT, ixN43, ixN42, ixN41, ixN10, decide_true, decide_false]
    by_cases hA : r < 2
    · simp only [hA, decide_true, if_true]
      exact end_
    · simp only [hA, decide_false, Bool.false_eq_true, if_false, Int.ofNat_zero, Int.natCast_zero, BEq.rfl, if_true]
      exact end_
  | succ dp ih =>
    intro M n k hf hM hn hl k1 k2 nlf
    rw [costV] at hn
    simp only [F_lvalue]
    refine drop_on (fn_on rfl ?_)
    unfold B_lvalue
    try simp only [onO_nx, onO_rt, onO_bad, onO_out, onO_ite, on_ite, onO_seq, onO_skip, onO_if, onO_ret, onO_set, onO_ex, onO_for, on_bindI, on_okI, on_badI, fCall, fCons, fNil, fPv, fC, fOp, fTest, fNotT, fAndT, fOrT, fAndV, fOrV, fNotV, fIf, fTup, fLst, fLstM, fSl, fPart, fNoP, fMethL, fNeg, fPut, fPar, fAsg, fYes, List.getElem?_cons_zero, List.getElem?_cons_succ, List.set_cons_zero, List.set_cons_succ, List.map_cons, List.map_nil, List.nil_append, List.cons_append, List.length_cons, List.length_nil, List.reduceReplicate, Nat.reduceSub, Nat.reduceAdd, Nat.zero_add, Bool.not_true, Bool.not_false, if_true, if_false, reduceIte, Bool.false_eq_true, reduceCtorEq, datas, Option.map_some, Option.bind_some, e_add, e_sub, e_lt, e_le, e_gt, e_ge, e_eqI, e_eqB, e_neI, e_neT, e_lenL, e_lenT, ixN43, ixN42, ixN41, ixN10, decide_true, decide_false]
    rw [ixL hl (by rfl)]
    try simp only [onO_nx, onO_rt, onO_bad, onO_out, onO_ite, on_ite, onO_seq, onO_skip, onO_if, onO_ret, onO_set, onO_ex, onO_for, on_bindI, on_okI, on_badI, fCall, fCons, fNil, fPv, fC, fOp, fTest, fNotT, fAndT, fOrT, fAndV, fOrV, fNotV, fIf, fTup, fLst, fLstM, fSl, fPart, fNoP, fMethL, fNeg, fPut, fPar, fAsg, fYes, List.getElem?_cons_zero, List.getElem?_cons_succ, List.set_cons_zero, List.set_cons_succ, List.map_cons, List.map_nil, List.nil_append, List.cons_append, List.length_cons, List.length_nil, List.reduceReplicate, Nat.reduceSub, Nat.reduceAdd, Nat.zero_add, Bool.not_true, Bool.not_false, if_true, if_false, reduceIte, Bool.false_eq_true, reduceCtorEq, datas, Option.map_some, Option.bind_some, e_add, e_sub, e_lt, e_le, e_gt, e_ge, e_eqI, e_eqB, e_neI, e_neT, e_lenL, e_lenT, ixN43, ixN42, ixN41, ixN10, decide_true, decide_false, hl]
    have f1 : Feed (setL M l [.d (.int (k - 1))]) f n := hf.fr (S := [l]) (Fr.set (by simp)) (by simpa using nlf.symm)
    have fl1 : Flat (setL M l [.d (.int (k - 1))]) := hM.set (by intro w hw; rw [List.mem_singleton.mp hw]; exact ⟨_, rfl⟩)
    have l1 : (setL M l [.d (.int (k - 1))])[l]? = some (.lst [.d (.int (k - 1))]) := put4 hl
    refine on_imp (draw_on f1 fl1 (by omega) (by omega) (by omega)) ?_
    rintro _ M2 ⟨r, rfl, r0, r1, fd2, fr2, fl2⟩
    have l2 : M2[l]? = some (.lst [.d (.int (k - 1))]) := fr2.get l1 (by simpa using nlf)
    have fr02 : Fr [f, l] M M2 := (Fr.set (by simp)).trans (fr2.wide (by simp))
    have end_ : (F_lplain [.r f] M2).on (DropP M fun w M' => ∃ (d : PyData) (k' : Int), w = .d d ∧ VD (dp + 1) d ∧ 0 ≤ k' ∧ (szD d : Int) + 211 + 430 * k' ≤ 430 * k ∧ Feed M' f (n + costV (dp + 1)) ∧ M'[l]? = some (.lst [.d (.int k')]) ∧ Fr [f, l] M M' ∧ Flat M') := by
      refine on_imp (plain_on fd2 fl2 (by omega)) ?_
      rintro _ M3 ⟨d, rfl, hd, fd3, fr3, fl3⟩
      have fr : Fr [f, l] M M3 := fr02.trans (fr3.wide (by simp))
      refine fin_drop fr fl3 ⟨d, k - 1, rfl, .plain hd, by omega, ?_, fd3.up (by rw [costV]; omega), fr3.get l2 (by simpa using nlf), fr, fl3⟩
      rw [sz_PL d hd]; omega
    try simp only [onO_nx, onO_rt, onO_bad, onO_out, onO_ite, on_ite, onO_seq, onO_skip, onO_if, onO_ret, onO_set, onO_ex, onO_for, on_bindI, on_okI, on_badI, fCall, fCons, fNil, fPv, fC, fOp, fTest, fNotT, fAndT, fOrT, fAndV, fOrV, fNotV, fIf, fTup, fLst, fLstM, fSl, fPart, fNoP, fMethL, fNeg, fPut, fPar, fAsg, fYes, List.getElem?_cons_zero, List.getElem?_cons_succ, List.set_cons_zero, List.set_cons_succ, List.map_cons, List.map_nil, List.nil_append, List.cons_append, List.length_cons, List.length_nil, List.reduceReplicate, Nat.reduceSub, Nat.reduceAdd, Nat.zero_add, Bool.not_true, Bool.not_false, if_true, if_false, reduceIte, Bool.false_eq_true, reduceCtorEq, datas, Option.map_some, Option.bind_some, e_add, e_sub, e_lt, e_le, e_gt, e_ge, e_eqI, e_eqB, e_neI, e_neT, e_lenL, e_lenT, ixN43, ixN42, ixN41, ixN10, decide_true, decide_false]
    by_cases hA : r < 2
    · simp only [hA, decide_true, if_true]
      exact end_
    simp only [hA, decide_false, Bool.false_eq_true, if_false]
    have hz : (((dp + 1 : Nat) : Int) == 0) = false := by
      rw [beq_eq_false_iff_ne]
      omega
    simp only [hz, Bool.false_eq_true, if_false]
    rw [ixL l2 (by rfl)]
    try simp only [onO_nx, onO_rt, onO_bad, onO_out, onO_ite, on_ite, onO_seq, onO_skip, onO_if, onO_ret, onO_set, onO_ex, onO_for, on_bindI, on_okI, on_badI, fCall, fCons, fNil, fPv, fC, fOp, fTest, fNotT, fAndT, fOrT, fAndV, fOrV, fNotV, fIf, fTup, fLst, fLstM, fSl, fPart, fNoP, fMethL, fNeg, fPut, fPar, fAsg, fYes, List.getElem?_cons_zero, List.getElem?_cons_succ, List.set_cons_zero, List.set_cons_succ, List.map_cons, List.map_nil, List.nil_append, List.cons_append, List.length_cons, List.length_nil, List.reduceReplicate, Nat.reduceSub, Nat.reduceAdd, Nat.zero_add, Bool.not_true, Bool.not_false, if_true, if_false, reduceIte, Bool.false_eq_true, reduceCtorEq, datas, Option.map_some, Option.bind_some, e_add, e_sub, e_lt, e_le, e_gt, e_ge, e_eqI, e_eqB, e_neI, e_neT, e_lenL, e_lenT, ixN43, ixN42, ixN41, ixN10, decide_true, decide_false]
    by_cases hB : k - 1 < 2
    · simp only [hB, decide_true, if_true]
      exact end_
    simp only [hB, decide_false, Bool.false_eq_true, if_false]
    rw [ixL l2 (by rfl)]
    try simp only [onO_nx, onO_rt, onO_bad, onO_out, onO_ite, on_ite, onO_seq, onO_skip, onO_if, onO_ret, onO_set, onO_ex, onO_for, on_bindI, on_okI, on_badI, fCall, fCons, fNil, fPv, fC, fOp, fTest, fNotT, fAndT, fOrT, fAndV, fOrV, fNotV, fIf, fTup, fLst, fLstM, fSl, fPart, fNoP, fMethL, fNeg, fPut, fPar, fAsg, fYes, List.getElem?_cons_zero, List.getElem?_cons_succ, List.set_cons_zero, List.set_cons_succ, List.map_cons, List.map_nil, List.nil_append, List.cons_append, List.length_cons, List.length_nil, List.reduceReplicate, Nat.reduceSub, Nat.reduceAdd, Nat.zero_add, Bool.not_true, Bool.not_false, if_true, if_false, reduceIte, Bool.false_eq_true, reduceCtorEq, datas, Option.map_some, Option.bind_some, e_add, e_sub, e_lt, e_le, e_gt, e_ge, e_eqI, e_eqB, e_neI, e_neT, e_lenL, e_lenT, ixN43, ixN42, ixN41, ixN10, decide_true, decide_false, e_min]
    generalize hm : (if k - 1 < 4 then k - 1 else 4 : Int) = m
    have hm1 : 2 ≤ m ∧ m ≤ 4 := by
      rw [← hm]
      split <;> omega
    refine on_imp (draw_on fd2 fl2 (by omega) (by omega) (by omega)) ?_
    rintro _ M3 ⟨q, rfl, q0, q1, fd3, fr3, fl3⟩
    have l3 : M3[l]? = some (.lst [.d (.int (k - 1))]) := fr3.get l2 (by simpa using nlf)
    have fr03 : Fr [f, l] M M3 := fr02.trans (fr3.wide (by simp))
    unfold fLc fiR1
    try simp only [onO_nx, onO_rt, onO_bad, onO_out, onO_ite, on_ite, onO_seq, onO_skip, onO_if, onO_ret, onO_set, onO_ex, onO_for, on_bindI, on_okI, on_badI, fCall, fCons, fNil, fPv, fC, fOp, fTest, fNotT, fAndT, fOrT, fAndV, fOrV, fNotV, fIf, fTup, fLst, fLstM, fSl, fPart, fNoP, fMethL, fNeg, fPut, fPar, fAsg, fYes, List.getElem?_cons_zero, List.getElem?_cons_succ, List.set_cons_zero, List.set_cons_succ, List.map_cons, List.map_nil, List.nil_append, List.cons_append, List.length_cons, List.length_nil, List.reduceReplicate, Nat.reduceSub, Nat.reduceAdd, Nat.zero_add, Bool.not_true, Bool.not_false, if_true, if_false, reduceIte, Bool.false_eq_true, reduceCtorEq, datas, Option.map_some, Option.bind_some, e_add, e_sub, e_lt, e_le, e_gt, e_ge, e_eqI, e_eqB, e_neI, e_neT, e_lenL, e_lenT, ixN43, ixN42, ixN41, ixN10, decide_true, decide_false]
    rw [if_pos (by omega)]
    refine lc_on (fun i M4 acc => ∃ k' : Int, Feed M4 f (n + 2 + i * costV dp) ∧ M4[l]? = some (.lst [.d (.int k')]) ∧ 0 ≤ k' ∧ k' ≤ 30 ∧ acc.length ≤ i ∧ (∀ d ∈ acc, VD dp d) ∧ (szDs acc : Int) + 209 * (acc.length : Nat) + 430 * k' ≤ 430 * (k - 1) ∧ Fr [f, l] M M4 ∧ Flat M4) ?st ?fin
      ⟨k - 1, by simpa using fd3, l3, by omega, by omega, by simp, by simp, by simp [szDs], fr03, fl3⟩
    case st =>
      rintro i it M4 acc hi ⟨k', fd, hl4, k0, k30, al, av, pt, fr, fl⟩
      obtain ⟨hi, rfl⟩ := rng_at hi
      have hic : i * costV dp ≤ 3 * costV dp := Nat.mul_le_mul_right _ (by omega)
      refine ⟨trivial, _, rfl, ?_⟩
      try simp only [onO_nx, onO_rt, onO_bad, onO_out, onO_ite, on_ite, onO_seq, onO_skip, onO_if, onO_ret, onO_set, onO_ex, onO_for, on_bindI, on_okI, on_badI, fCall, fCons, fNil, fPv, fC, fOp, fTest, fNotT, fAndT, fOrT, fAndV, fOrV, fNotV, fIf, fTup, fLst, fLstM, fSl, fPart, fNoP, fMethL, fNeg, fPut, fPar, fAsg, fYes, List.getElem?_cons_zero, List.getElem?_cons_succ, List.set_cons_zero, List.set_cons_succ, List.map_cons, List.map_nil, List.nil_append, List.cons_append, List.length_cons, List.length_nil, List.reduceReplicate, Nat.reduceSub, Nat.reduceAdd, Nat.zero_add, Bool.not_true, Bool.not_false, if_true, if_false, reduceIte, Bool.false_eq_true, reduceCtorEq, datas, Option.map_some, Option.bind_some, e_add, e_sub, e_lt, e_le, e_gt, e_ge, e_eqI, e_eqB, e_neI, e_neT, e_lenL, e_lenT, ixN43, ixN42, ixN41, ixN10, decide_true, decide_false, wipeD]
      rw [ixL hl4 (by rfl)]
      try simp only [onO_nx, onO_rt, onO_bad, onO_out, onO_ite, on_ite, onO_seq, onO_skip, onO_if, onO_ret, onO_set, onO_ex, onO_for, on_bindI, on_okI, on_badI, fCall, fCons, fNil, fPv, fC, fOp, fTest, fNotT, fAndT, fOrT, fAndV, fOrV, fNotV, fIf, fTup, fLst, fLstM, fSl, fPart, fNoP, fMethL, fNeg, fPut, fPar, fAsg, fYes, List.getElem?_cons_zero, List.getElem?_cons_succ, List.set_cons_zero, List.set_cons_succ, List.map_cons, List.map_nil, List.nil_append, List.cons_append, List.length_cons, List.length_nil, List.reduceReplicate, Nat.reduceSub, Nat.reduceAdd, Nat.zero_add, Bool.not_true, Bool.not_false, if_true, if_false, reduceIte, Bool.false_eq_true, reduceCtorEq, datas, Option.map_some, Option.bind_some, e_add, e_sub, e_lt, e_le, e_gt, e_ge, e_eqI, e_eqB, e_neI, e_neT, e_lenL, e_lenT, ixN43, ixN42, ixN41, ixN10, decide_true, decide_false]
      by_cases hk : 0 < k'
      · simp only [hk, decide_true, if_true]
        have ed : ((dp + 1 : Nat) : Int) - 1 = (dp : Nat) := by omega
        rw [ed]
        refine on_imp (ih fd fl (by omega) hl4 (by omega) k30 nlf) ?_
        rintro _ M5 ⟨d, k2', rfl, vd, k2', p2, fd5, l5, fr5, fl5⟩
        refine ⟨d, rfl, Nat.lt_of_le_of_lt (show acc.length ≤ 5 by omega) (by decide), _, ?_, l5, k2', by omega, ?_, ?_, ?_, fr.trans fr5, fl5⟩
        · rw [Nat.add_mul, Nat.one_mul, ← Nat.add_assoc]
          exact fd5
        · rw [List.length_append]; simpa using al
        · intro e he
          rcases List.mem_append.mp he with z | z
          · exact av e z
          · rw [List.mem_singleton.mp z]; exact vd
        · rw [szDs_app, List.length_append]
          simp only [szDs, List.length_cons, List.length_nil]
          omega
      · simp only [hk, decide_false, Bool.false_eq_true, if_false]
        exact ⟨k', fd.up (by rw [Nat.add_mul]; omega), hl4, k0, k30, by omega, av, pt, fr, fl⟩
    case fin =>
      rintro M4 acc ⟨k', fd, hl4, k0, k30, al, av, pt, fr, fl⟩
      rw [rng_len] at fd al
      have hic : q.toNat * costV dp ≤ 3 * costV dp := Nat.mul_le_mul_right _ (by omega)
      refine ⟨trivial, ?_⟩
      try simp only [onO_nx, onO_rt, onO_bad, onO_out, onO_ite, on_ite, onO_seq, onO_skip, onO_if, onO_ret, onO_set, onO_ex, onO_for, on_bindI, on_okI, on_badI, fCall, fCons, fNil, fPv, fC, fOp, fTest, fNotT, fAndT, fOrT, fAndV, fOrV, fNotV, fIf, fTup, fLst, fLstM, fSl, fPart, fNoP, fMethL, fNeg, fPut, fPar, fAsg, fYes, List.getElem?_cons_zero, List.getElem?_cons_succ, List.set_cons_zero, List.set_cons_succ, List.map_cons, List.map_nil, List.nil_append, List.cons_append, List.length_cons, List.length_nil, List.reduceReplicate, Nat.reduceSub, Nat.reduceAdd, Nat.zero_add, Bool.not_true, Bool.not_false, if_true, if_false, reduceIte, Bool.false_eq_true, reduceCtorEq, datas, Option.map_some, Option.bind_some, e_add, e_sub, e_lt, e_le, e_gt, e_ge, e_eqI, e_eqB, e_neI, e_neT, e_lenL, e_lenT, ixN43, ixN42, ixN41, ixN10, decide_true, decide_false]
      by_cases hC : r < 4
      · simp only [hC, decide_true, if_true]
        try simp only [onO_nx, onO_rt, onO_bad, onO_out, onO_ite, on_ite, onO_seq, onO_skip, onO_if, onO_ret, onO_set, onO_ex, onO_for, on_bindI, on_okI, on_badI, fCall, fCons, fNil, fPv, fC, fOp, fTest, fNotT, fAndT, fOrT, fAndV, fOrV, fNotV, fIf, fTup, fLst, fLstM, fSl, fPart, fNoP, fMethL, fNeg, fPut, fPar, fAsg, fYes, List.getElem?_cons_zero, List.getElem?_cons_succ, List.set_cons_zero, List.set_cons_succ, List.map_cons, List.map_nil, List.nil_append, List.cons_append, List.length_cons, List.length_nil, List.reduceReplicate, Nat.reduceSub, Nat.reduceAdd, Nat.zero_add, Bool.not_true, Bool.not_false, if_true, if_false, reduceIte, Bool.false_eq_true, reduceCtorEq, datas, Option.map_some, Option.bind_some, e_add, e_sub, e_lt, e_le, e_gt, e_ge, e_eqI, e_eqB, e_neI, e_neT, e_lenL, e_lenT, ixN43, ixN42, ixN41, ixN10, decide_true, decide_false, oTuple, lsv, datas_d, show (2 : Nat) ≤ sizeLine from by decide]
        refine fin_drop fr fl ⟨rowD acc, k', rfl, .row (by omega) av, k0, ?_, fd.up (by rw [costV]; omega), hl4, fr, fl⟩
        rw [sz_row]
        omega
      · simp only [hC, decide_false, Bool.false_eq_true, if_false]
        try simp only [onO_nx, onO_rt, onO_bad, onO_out, onO_ite, on_ite, onO_seq, onO_skip, onO_if, onO_ret, onO_set, onO_ex, onO_for, on_bindI, on_okI, on_badI, fCall, fCons, fNil, fPv, fC, fOp, fTest, fNotT, fAndT, fOrT, fAndV, fOrV, fNotV, fIf, fTup, fLst, fLstM, fSl, fPart, fNoP, fMethL, fNeg, fPut, fPar, fAsg, fYes, List.getElem?_cons_zero, List.getElem?_cons_succ, List.set_cons_zero, List.set_cons_succ, List.map_cons, List.map_nil, List.nil_append, List.cons_append, List.length_cons, List.length_nil, List.reduceReplicate, Nat.reduceSub, Nat.reduceAdd, Nat.zero_add, Bool.not_true, Bool.not_false, if_true, if_false, reduceIte, Bool.false_eq_true, reduceCtorEq, datas, Option.map_some, Option.bind_some, e_add, e_sub, e_lt, e_le, e_gt, e_ge, e_eqI, e_eqB, e_neI, e_neT, e_lenL, e_lenT, ixN43, ixN42, ixN41, ixN10, decide_true, decide_false]
        refine on_imp (tree_on (l := none) fd fl (by omega) (.inl ⟨rfl, rfl⟩) (by simp) (by omega)) ?_
        rintro _ M5 ⟨fs, rfl, pm, hw, rs, fd5, fr5, fl5⟩
        have fr' : Fr [f, l] M M5 := fr.trans (fr5.wide (by simp))
        have e5 : fs.length = acc.length := by simpa using pm.length_eq
        refine fin_drop fr' fl5 ⟨treeD fs, k', rfl, .tree (by omega) ⟨hw, rs⟩ (fun e he => av _ (pm.subset (List.mem_map.mpr ⟨e, he, rfl⟩))), k0, ?_, fd5.up (by rw [costV]; omega), fr5.get hl4 (by simpa using nlf), fr', fl5⟩
        rw [sz_tree, szDs_perm pm]
        omega
end Fu

set_option Elab.async false
set_option linter.all false
set_option maxRecDepth 100000
set_option maxHeartbeats 1000000
/-! Drawn documents, steps. -/
namespace Fu
open PySem PySem.Spec PyProof.Rows L2 Dat LamX PySem.W
def costD : Nat := 5 * costV 3 + 20
theorem VD.up {n : Nat} {d : PyData} (h : VD n d) : VD (n + 1) d := by
  induction h with
  | plain h => exact .plain h
  | row h _ ih => exact .row h ih
  | tree h k _ ih => exact .tree h k ih
theorem e_app {i : Nat} {w : Wv} {us : List Wv} {M : Sto} (h : M[i]? = some (.lst us)) (hz : us.length < sizeLine) : oAppend (.r i) [w] M = .ok (.d .none) (setL M i (us ++ [w])) := by
  simp only [oAppend, h, hz, if_true]
theorem lstW_at {M : Sto} {i : Nat} {us : List Wv} (h : M[i]? = some (.lst us)) : lstW M (.r i) = true := by
  simp only [lstW, lsv, h, Option.isSome_some]
theorem map_snoc {α β : Type} (g : α → β) (xs : List α) (x : α) : xs.map g ++ [g x] = (xs ++ [x]).map g := by simp
theorem fl_ds (ds : List PyData) : Ob.fl (.lst (ds.map .d)) := fun w hw => by
  obtain ⟨d, _, rfl⟩ := List.mem_map.mp hw
  exact ⟨d, rfl⟩
theorem doc_on {M : Sto} {f n : Nat} (hf : Feed M f n) (hM : Flat M) (hn : n + costD ≤ 999999000) :
    (F_ldocument [.r f] M).on fun w M' => ∃ fs : List (Str × PyData), w = .d (treeD fs) ∧ fs.length ≤ 5 ∧ FieldsOk fs ∧ (∀ e ∈ fs, VD 3 e.2) ∧ szD (treeD fs) ≤ 13000 ∧ Feed M' f (n + costD) ∧ Fr [f] M M' ∧ Flat M' := by
  unfold costD at hn
  unfold F_ldocument
  refine drop_on (fn_on rfl ?_)
  unfold B_ldocument
  try simp only [onO_nx, onO_rt, onO_bad, onO_out, onO_ite, on_ite, onO_seq, onO_skip, onO_if, onO_ret, onO_set, onO_ex, onO_for, on_bindI, on_okI, on_badI, fCall, fCons, fNil, fPv, fC, fOp, fTest, fNotT, fAndT, fOrT, fAndV, fOrV, fNotV, fIf, fTup, fLst, fLstM, fSl, fPart, fNoP, fMethL, fNeg, fPut, fPar, fAsg, fYes, List.getElem?_cons_zero, List.getElem?_cons_succ, List.set_cons_zero, List.set_cons_succ, List.map_cons, List.map_nil, List.nil_append, List.cons_append, List.length_cons, List.length_nil, List.reduceReplicate, Nat.reduceSub, Nat.reduceAdd, Nat.zero_add, Bool.not_true, Bool.not_false, if_true, if_false, reduceIte, Bool.false_eq_true, reduceCtorEq, datas, Option.map_some, Option.bind_some, e_add, e_sub, e_lt, e_le, e_gt, e_ge, e_eqI, e_eqB, e_neI, e_neT, e_lenL, e_lenT, ixN43, ixN42, ixN41, ixN10, decide_true, decide_false, show (1 : Nat) ≤ sizeLine from by decide, show (0 : Nat) ≤ sizeLine from by decide, show (5 : Nat) ≤ sizeLine from by decide]
  generalize hL : M.length = L
  have eS : (M ++ [Ob.lst [.d (.int 29)]]).length = L + 1 := by simp [hL]
  simp only [eS]
  generalize hM1 : M ++ [Ob.lst [.d (.int 29)]] ++ [Ob.lst []] = M1
  have f1 : Feed M1 f n := by rw [← hM1]; exact hf.app.app
  have fl1 : Flat M1 := by
    rw [← hM1]
    exact (hM.app (by intro w hw; rw [List.mem_singleton.mp hw]; exact ⟨_, rfl⟩)).app (by intro w hw; cases hw)
  have l1 : M1[L]? = some (.lst [.d (.int 29)]) := by rw [← hM1, ← hL]; exact at_old at_new
  have s1 : M1[L + 1]? = some (.lst (([] : List PyData).map .d)) := by rw [← hM1, ← eS]; exact at_new
  have fL : f < L := by rw [← hL]; exact hf.lt
  unfold fiR1
  try simp only [onO_nx, onO_rt, onO_bad, onO_out, onO_ite, on_ite, onO_seq, onO_skip, onO_if, onO_ret, onO_set, onO_ex, onO_for, on_bindI, on_okI, on_badI, fCall, fCons, fNil, fPv, fC, fOp, fTest, fNotT, fAndT, fOrT, fAndV, fOrV, fNotV, fIf, fTup, fLst, fLstM, fSl, fPart, fNoP, fMethL, fNeg, fPut, fPar, fAsg, fYes, List.getElem?_cons_zero, List.getElem?_cons_succ, List.set_cons_zero, List.set_cons_succ, List.map_cons, List.map_nil, List.nil_append, List.cons_append, List.length_cons, List.length_nil, List.reduceReplicate, Nat.reduceSub, Nat.reduceAdd, Nat.zero_add, Bool.not_true, Bool.not_false, if_true, if_false, reduceIte, Bool.false_eq_true, reduceCtorEq, datas, Option.map_some, Option.bind_some, e_add, e_sub, e_lt, e_le, e_gt, e_ge, e_eqI, e_eqB, e_neI, e_neT, e_lenL, e_lenT, ixN43, ixN42, ixN41, ixN10, decide_true, decide_false]
  refine on_imp (draw_on f1 fl1 (by omega) (by omega) (by omega)) ?_
  rintro _ M2 ⟨r, rfl, r0, r1, fd2, fr2, fl2⟩
  obtain ⟨c, hc, e1⟩ : ∃ c : Int, (0 ≤ c ∧ c ≤ 5) ∧ atI [PyData.int 3, .int 4, .int 5, .int 0, .int 2] r = some (.int c) := by
    have : r = 0 ∨ r = 1 ∨ r = 2 ∨ r = 3 ∨ r = 4 := by omega
    rcases this with rfl | rfl | rfl | rfl | rfl
    · exact ⟨3, by omega, rfl⟩
    · exact ⟨4, by omega, rfl⟩
    · exact ⟨5, by omega, rfl⟩
    · exact ⟨0, by omega, rfl⟩
    · exact ⟨2, by omega, rfl⟩
  rw [ixLd e1]
  try simp only [onO_nx, onO_rt, onO_bad, onO_out, onO_ite, on_ite, onO_seq, onO_skip, onO_if, onO_ret, onO_set, onO_ex, onO_for, on_bindI, on_okI, on_badI, fCall, fCons, fNil, fPv, fC, fOp, fTest, fNotT, fAndT, fOrT, fAndV, fOrV, fNotV, fIf, fTup, fLst, fLstM, fSl, fPart, fNoP, fMethL, fNeg, fPut, fPar, fAsg, fYes, List.getElem?_cons_zero, List.getElem?_cons_succ, List.set_cons_zero, List.set_cons_succ, List.map_cons, List.map_nil, List.nil_append, List.cons_append, List.length_cons, List.length_nil, List.reduceReplicate, Nat.reduceSub, Nat.reduceAdd, Nat.zero_add, Bool.not_true, Bool.not_false, if_true, if_false, reduceIte, Bool.false_eq_true, reduceCtorEq, datas, Option.map_some, Option.bind_some, e_add, e_sub, e_lt, e_le, e_gt, e_ge, e_eqI, e_eqB, e_neI, e_neT, e_lenL, e_lenT, ixN43, ixN42, ixN41, ixN10, decide_true, decide_false]
  rw [if_pos (by omega)]
  try simp only [onO_nx, onO_rt, onO_bad, onO_out, onO_ite, on_ite, onO_seq, onO_skip, onO_if, onO_ret, onO_set, onO_ex, onO_for, on_bindI, on_okI, on_badI, fCall, fCons, fNil, fPv, fC, fOp, fTest, fNotT, fAndT, fOrT, fAndV, fOrV, fNotV, fIf, fTup, fLst, fLstM, fSl, fPart, fNoP, fMethL, fNeg, fPut, fPar, fAsg, fYes, List.getElem?_cons_zero, List.getElem?_cons_succ, List.set_cons_zero, List.set_cons_succ, List.map_cons, List.map_nil, List.nil_append, List.cons_append, List.length_cons, List.length_nil, List.reduceReplicate, Nat.reduceSub, Nat.reduceAdd, Nat.zero_add, Bool.not_true, Bool.not_false, if_true, if_false, reduceIte, Bool.false_eq_true, reduceCtorEq, datas, Option.map_some, Option.bind_some, e_add, e_sub, e_lt, e_le, e_gt, e_ge, e_eqI, e_eqB, e_neI, e_neT, e_lenL, e_lenT, ixN43, ixN42, ixN41, ixN10, decide_true, decide_false]
  have l2 := fr2.get l1 (by simpa using (show L ≠ f by omega))
  have s2 := fr2.get s1 (by simpa using (show L + 1 ≠ f by omega))
  refine for_on (fun i sd M3 => ∃ (x : Option Wv) (k : Int) (acc : List PyData), sd = [some (.r f), some (.r L), some (.r (L + 1)), x] ∧ Feed M3 f (n + 1 + i * costV 3) ∧ M3[L]? = some (.lst [.d (.int k)]) ∧ 0 ≤ k ∧ k ≤ 29 ∧
      M3[L + 1]? = some (.lst (acc.map .d)) ∧ acc.length ≤ i ∧ (∀ d ∈ acc, VD 3 d) ∧ (szDs acc : Int) + 209 * (acc.length : Nat) + 430 * k ≤ 430 * 29 ∧ Fr [f, L, L + 1] M1 M3 ∧ Flat M3) ?st ?fin
    ⟨none, 29, [], rfl, by simpa using fd2, l2, by omega, by omega, s2, by simp, by simp, by simp [szDs], fr2.wide (by simp), fl2⟩
  case st =>
    rintro i it _ M3 hi ⟨x, k, acc, rfl, fd, lk, k0, k29, sk, al, av, pt, fr, fl⟩
    obtain ⟨hi, rfl⟩ := rng_at hi
    have hic : i * costV 3 ≤ 4 * costV 3 := Nat.mul_le_mul_right _ (by omega)
    refine ⟨trivial, _, rfl, ?_⟩
    unfold B_ldocument_1
    try simp only [onO_nx, onO_rt, onO_bad, onO_out, onO_ite, on_ite, onO_seq, onO_skip, onO_if, onO_ret, onO_set, onO_ex, onO_for, on_bindI, on_okI, on_badI, fCall, fCons, fNil, fPv, fC, fOp, fTest, fNotT, fAndT, fOrT, fAndV, fOrV, fNotV, fIf, fTup, fLst, fLstM, fSl, fPart, fNoP, fMethL, fNeg, fPut, fPar, fAsg, fYes, List.getElem?_cons_zero, List.getElem?_cons_succ, List.set_cons_zero, List.set_cons_succ, List.map_cons, List.map_nil, List.nil_append, List.cons_append, List.length_cons, List.length_nil, List.reduceReplicate, Nat.reduceSub, Nat.reduceAdd, Nat.zero_add, Bool.not_true, Bool.not_false, if_true, if_false, reduceIte, Bool.false_eq_true, reduceCtorEq, datas, Option.map_some, Option.bind_some, e_add, e_sub, e_lt, e_le, e_gt, e_ge, e_eqI, e_eqB, e_neI, e_neT, e_lenL, e_lenT, ixN43, ixN42, ixN41, ixN10, decide_true, decide_false]
    rw [ixL lk (by rfl)]
    try simp only [onO_nx, onO_rt, onO_bad, onO_out, onO_ite, on_ite, onO_seq, onO_skip, onO_if, onO_ret, onO_set, onO_ex, onO_for, on_bindI, on_okI, on_badI, fCall, fCons, fNil, fPv, fC, fOp, fTest, fNotT, fAndT, fOrT, fAndV, fOrV, fNotV, fIf, fTup, fLst, fLstM, fSl, fPart, fNoP, fMethL, fNeg, fPut, fPar, fAsg, fYes, List.getElem?_cons_zero, List.getElem?_cons_succ, List.set_cons_zero, List.set_cons_succ, List.map_cons, List.map_nil, List.nil_append, List.cons_append, List.length_cons, List.length_nil, List.reduceReplicate, Nat.reduceSub, Nat.reduceAdd, Nat.zero_add, Bool.not_true, Bool.not_false, if_true, if_false, reduceIte, Bool.false_eq_true, reduceCtorEq, datas, Option.map_some, Option.bind_some, e_add, e_sub, e_lt, e_le, e_gt, e_ge, e_eqI, e_eqB, e_neI, e_neT, e_lenL, e_lenT, ixN43, ixN42, ixN41, ixN10, decide_true, decide_false]
    by_cases hk : 0 < k
    · simp only [hk, decide_true, if_true]
      rw [lstW_at sk]
      try simp only [onO_nx, onO_rt, onO_bad, onO_out, onO_ite, on_ite, onO_seq, onO_skip, onO_if, onO_ret, onO_set, onO_ex, onO_for, on_bindI, on_okI, on_badI, fCall, fCons, fNil, fPv, fC, fOp, fTest, fNotT, fAndT, fOrT, fAndV, fOrV, fNotV, fIf, fTup, fLst, fLstM, fSl, fPart, fNoP, fMethL, fNeg, fPut, fPar, fAsg, fYes, List.getElem?_cons_zero, List.getElem?_cons_succ, List.set_cons_zero, List.set_cons_succ, List.map_cons, List.map_nil, List.nil_append, List.cons_append, List.length_cons, List.length_nil, List.reduceReplicate, Nat.reduceSub, Nat.reduceAdd, Nat.zero_add, Bool.not_true, Bool.not_false, if_true, if_false, reduceIte, Bool.false_eq_true, reduceCtorEq, datas, Option.map_some, Option.bind_some, e_add, e_sub, e_lt, e_le, e_gt, e_ge, e_eqI, e_eqB, e_neI, e_neT, e_lenL, e_lenT, ixN43, ixN42, ixN41, ixN10, decide_true, decide_false]
      refine on_imp (value_on (l := L) 3 fd fl (by omega) lk (by omega) (by omega) (by omega)) ?_
      rintro _ M4 ⟨d, k', rfl, vd, k0', p4, fd4, l4, fr4, fl4⟩
      have s4 := fr4.get sk (by simp; omega)
      rw [e_app s4 (Nat.lt_of_le_of_lt (show (acc.map Wv.d).length ≤ 5 by rw [List.length_map]; omega) (by decide))]
      try simp only [onO_nx, onO_rt, onO_bad, onO_out, onO_ite, on_ite, onO_seq, onO_skip, onO_if, onO_ret, onO_set, onO_ex, onO_for, on_bindI, on_okI, on_badI, fCall, fCons, fNil, fPv, fC, fOp, fTest, fNotT, fAndT, fOrT, fAndV, fOrV, fNotV, fIf, fTup, fLst, fLstM, fSl, fPart, fNoP, fMethL, fNeg, fPut, fPar, fAsg, fYes, List.getElem?_cons_zero, List.getElem?_cons_succ, List.set_cons_zero, List.set_cons_succ, List.map_cons, List.map_nil, List.nil_append, List.cons_append, List.length_cons, List.length_nil, List.reduceReplicate, Nat.reduceSub, Nat.reduceAdd, Nat.zero_add, Bool.not_true, Bool.not_false, if_true, if_false, reduceIte, Bool.false_eq_true, reduceCtorEq, datas, Option.map_some, Option.bind_some, e_add, e_sub, e_lt, e_le, e_gt, e_ge, e_eqI, e_eqB, e_neI, e_neT, e_lenL, e_lenT, ixN43, ixN42, ixN41, ixN10, decide_true, decide_false]
      rw [map_snoc]
      have frS : Fr [L + 1] M4 (setL M4 (L + 1) ((acc ++ [d]).map .d)) := Fr.set (by simp)
      refine ⟨_, k', acc ++ [d], rfl, ?_, frS.get l4 (by simp), k0', by omega, put4 s4, ?_, ?_, ?_, fr.trans ((fr4.wide (by simp)).trans (frS.wide (by simp))), fl4.set (fl_ds _)⟩
      · have := fd4.fr frS (by simp; omega)
        rw [Nat.add_mul, Nat.one_mul, ← Nat.add_assoc]
        exact this
      · rw [List.length_append]; simpa using al
      · intro e he
        rcases List.mem_append.mp he with z | z
        · exact av e z
        · rw [List.mem_singleton.mp z]; exact vd
      · rw [szDs_app, List.length_append]
        simp only [szDs, List.length_cons, List.length_nil]
        omega
    · simp only [hk, decide_false, Bool.false_eq_true, if_false]
      exact ⟨_, k, acc, rfl, fd.up (by rw [Nat.add_mul]; omega), lk, k0, k29, sk, by omega, av, pt, fr, fl⟩
  case fin =>
    rintro _ M3 ⟨x, k, acc, rfl, fd, lk, k0, k29, sk, al, av, pt, fr, fl⟩
    rw [rng_len] at fd al
    have hic : c.toNat * costV 3 ≤ 5 * costV 3 := Nat.mul_le_mul_right _ (by omega)
    refine ⟨trivial, ?_⟩
    try simp only [onO_nx, onO_rt, onO_bad, onO_out, onO_ite, on_ite, onO_seq, onO_skip, onO_if, onO_ret, onO_set, onO_ex, onO_for, on_bindI, on_okI, on_badI, fCall, fCons, fNil, fPv, fC, fOp, fTest, fNotT, fAndT, fOrT, fAndV, fOrV, fNotV, fIf, fTup, fLst, fLstM, fSl, fPart, fNoP, fMethL, fNeg, fPut, fPar, fAsg, fYes, List.getElem?_cons_zero, List.getElem?_cons_succ, List.set_cons_zero, List.set_cons_succ, List.map_cons, List.map_nil, List.nil_append, List.cons_append, List.length_cons, List.length_nil, List.reduceReplicate, Nat.reduceSub, Nat.reduceAdd, Nat.zero_add, Bool.not_true, Bool.not_false, if_true, if_false, reduceIte, Bool.false_eq_true, reduceCtorEq, datas, Option.map_some, Option.bind_some, e_add, e_sub, e_lt, e_le, e_gt, e_ge, e_eqI, e_eqB, e_neI, e_neT, e_lenL, e_lenT, ixN43, ixN42, ixN41, ixN10, decide_true, decide_false]
    refine on_imp (tree_on (l := some (L + 1)) fd fl (by omega) (.inr ⟨_, rfl, rfl, sk⟩) (by simp; omega) (by omega)) ?_
    rintro _ M5 ⟨fs, rfl, pm, hw, rs, fd5, fr5, fl5⟩
    have e5 : fs.length = acc.length := by simpa using pm.length_eq
    have fr' : Fr [f, L, L + 1] (M ++ ([Ob.lst [.d (.int 29)]] ++ [Ob.lst []])) M5 := by
      rw [← List.append_assoc, hM1]
      exact fr.trans (fr5.wide (by simp))
    refine fin_back (S' := [f]) fr' fl5 (fun y hy hz => ?_) fun fr6 fl6 => ⟨fs, rfl, by omega, ⟨hw, rs⟩, fun e he => av _ (pm.subset (List.mem_map.mpr ⟨e, he, rfl⟩)), ?_, ?_, fr6, fl6⟩
    · simp only [List.mem_cons, List.not_mem_nil, or_false] at hy ⊢
      omega
    · rw [sz_tree, szDs_perm pm]
      omega
    · exact (fd5.up (by rw [costD]; omega)).take hf.lt

/-! ### steps -/
inductive Sp'
  | fld (w : Str)
  | num (k : Nat)
  | each
  | whr (w : Str) (p : PyData)
def WQ : List Str := ["a", "b", "k", "kk", "x", "yes", "q"]
def spD : Sp' → PyData
  | .fld w => .tuple [.str "field", .str w]
  | .num k => .tuple [.str "at", .int (k : Nat)]
  | .each => .tuple [.str "each"]
  | .whr w p => .tuple [.str "where", .str w, p]
/-- steps that are drawn -/
def SpOk : Sp' → Prop
  | .fld w => w ∈ WQ
  | .num k => k ≤ 200
  | .each => True
  | .whr w p => w ∈ WQ ∧ p ∈ PL
theorem wq_at {r : Int} (h0 : 0 ≤ r) (h1 : r < 7) : ∃ w : Str, w ∈ WQ ∧ atI [PyData.str "a", .str "b", .str "k", .str "kk", .str "x", .str "yes", .str "q"] r = some (.str w) := by
  have : r = 0 ∨ r = 1 ∨ r = 2 ∨ r = 3 ∨ r = 4 ∨ r = 5 ∨ r = 6 := by omega
  rcases this with rfl | rfl | rfl | rfl | rfl | rfl | rfl
  · exact ⟨"a", by simp [WQ], rfl⟩
  · exact ⟨"b", by simp [WQ], rfl⟩
  · exact ⟨"k", by simp [WQ], rfl⟩
  · exact ⟨"kk", by simp [WQ], rfl⟩
  · exact ⟨"x", by simp [WQ], rfl⟩
  · exact ⟨"yes", by simp [WQ], rfl⟩
  · exact ⟨"q", by simp [WQ], rfl⟩
theorem step_on {M : Sto} {f n : Nat} (hf : Feed M f n) (hM : Flat M) (hn : n + 10 ≤ 999999000) :
    (F_lstep [.r f] M).on fun w M' => ∃ s : Sp', w = .d (spD s) ∧ SpOk s ∧ Feed M' f (n + 3) ∧ Fr [f] M M' ∧ Flat M' := by
  unfold F_lstep
  refine drop_on (fn_on rfl ?_)
  unfold B_lstep
  try simp only [onO_nx, onO_rt, onO_bad, onO_out, onO_ite, on_ite, onO_seq, onO_skip, onO_if, onO_ret, onO_set, onO_ex, onO_for, on_bindI, on_okI, on_badI, fCall, fCons, fNil, fPv, fC, fOp, fTest, fNotT, fAndT, fOrT, fAndV, fOrV, fNotV, fIf, fTup, fLst, fLstM, fSl, fPart, fNoP, fMethL, fNeg, fPut, fPar, fAsg, fYes, List.getElem?_cons_zero, List.getElem?_cons_succ, List.set_cons_zero, List.set_cons_succ, List.map_cons, List.map_nil, List.nil_append, List.cons_append, List.length_cons, List.length_nil, List.reduceReplicate, Nat.reduceSub, Nat.reduceAdd, Nat.zero_add, Bool.not_true, Bool.not_false, if_true, if_false, reduceIte, Bool.false_eq_true, reduceCtorEq, datas, Option.map_some, Option.bind_some, e_add, e_sub, e_lt, e_le, e_gt, e_ge, e_eqI, e_eqB, e_neI, e_neT, e_lenL, e_lenT, ixN43, ixN42, ixN41, ixN10, decide_true, decide_false, show (7 : Nat) ≤ sizeLine from by decide, show (1 : Nat) ≤ sizeLine from by decide, show (2 : Nat) ≤ sizeLine from by decide, show (3 : Nat) ≤ sizeLine from by decide]
  refine on_imp (draw_on hf hM (by omega) (by omega) (by omega)) ?_
  rintro _ M1 ⟨r, rfl, r0, r1, fd1, fr1, fl1⟩
  try simp only [onO_nx, onO_rt, onO_bad, onO_out, onO_ite, on_ite, onO_seq, onO_skip, onO_if, onO_ret, onO_set, onO_ex, onO_for, on_bindI, on_okI, on_badI, fCall, fCons, fNil, fPv, fC, fOp, fTest, fNotT, fAndT, fOrT, fAndV, fOrV, fNotV, fIf, fTup, fLst, fLstM, fSl, fPart, fNoP, fMethL, fNeg, fPut, fPar, fAsg, fYes, List.getElem?_cons_zero, List.getElem?_cons_succ, List.set_cons_zero, List.set_cons_succ, List.map_cons, List.map_nil, List.nil_append, List.cons_append, List.length_cons, List.length_nil, List.reduceReplicate, Nat.reduceSub, Nat.reduceAdd, Nat.zero_add, Bool.not_true, Bool.not_false, if_true, if_false, reduceIte, Bool.false_eq_true, reduceCtorEq, datas, Option.map_some, Option.bind_some, e_add, e_sub, e_lt, e_le, e_gt, e_ge, e_eqI, e_eqB, e_neI, e_neT, e_lenL, e_lenT, ixN43, ixN42, ixN41, ixN10, decide_true, decide_false]
  by_cases h0 : r = 0
  · simp only [h0, BEq.rfl, if_true]
    exact fin_drop fr1 fl1 ⟨.each, rfl, trivial, fd1.up (by omega), fr1, fl1⟩
  have b0 : (r == 0) = false := beq_eq_false_iff_ne.mpr h0
  simp only [b0, Bool.false_eq_true, if_false]
  by_cases h1 : r = 1
  · simp only [h1, BEq.rfl, if_true]
    refine on_imp (draw_on fd1 fl1 (by omega) (by omega) (by omega)) ?_
    rintro _ M2 ⟨q, rfl, q0, q1, fd2, fr2, fl2⟩
    have fr := fr1.trans fr2
    refine on_okI.mpr (fin_drop fr fl2 ⟨.num q.toNat, ?_, by show q.toNat ≤ 200; omega, fd2.up (by omega), fr, fl2⟩)
    simp only [spD, Int.toNat_of_nonneg q0]
  have b1 : (r == 1) = false := beq_eq_false_iff_ne.mpr h1
  simp only [b1, Bool.false_eq_true, if_false]
  refine on_imp (draw_on fd1 fl1 (by omega) (by omega) (by omega)) ?_
  rintro _ M2 ⟨q, rfl, q0, q1, fd2, fr2, fl2⟩
  obtain ⟨w, hw, e1⟩ := wq_at q0 q1
  rw [ixLd e1]
  try simp only [onO_nx, onO_rt, onO_bad, onO_out, onO_ite, on_ite, onO_seq, onO_skip, onO_if, onO_ret, onO_set, onO_ex, onO_for, on_bindI, on_okI, on_badI, fCall, fCons, fNil, fPv, fC, fOp, fTest, fNotT, fAndT, fOrT, fAndV, fOrV, fNotV, fIf, fTup, fLst, fLstM, fSl, fPart, fNoP, fMethL, fNeg, fPut, fPar, fAsg, fYes, List.getElem?_cons_zero, List.getElem?_cons_succ, List.set_cons_zero, List.set_cons_succ, List.map_cons, List.map_nil, List.nil_append, List.cons_append, List.length_cons, List.length_nil, List.reduceReplicate, Nat.reduceSub, Nat.reduceAdd, Nat.zero_add, Bool.not_true, Bool.not_false, if_true, if_false, reduceIte, Bool.false_eq_true, reduceCtorEq, datas, Option.map_some, Option.bind_some, e_add, e_sub, e_lt, e_le, e_gt, e_ge, e_eqI, e_eqB, e_neI, e_neT, e_lenL, e_lenT, ixN43, ixN42, ixN41, ixN10, decide_true, decide_false]
  have fr := fr1.trans fr2
  by_cases h2 : r = 2
  · simp only [h2, BEq.rfl, if_true]
    exact on_okI.mpr (fin_drop fr fl2 ⟨.fld w, rfl, hw, fd2.up (by omega), fr, fl2⟩)
  have b2 : (r == 2) = false := beq_eq_false_iff_ne.mpr h2
  simp only [b2, Bool.false_eq_true, if_false]
  refine on_imp (plain_on fd2 fl2 (by omega)) ?_
  rintro _ M3 ⟨d, rfl, hd, fd3, fr3, fl3⟩
  try simp only [onO_nx, onO_rt, onO_bad, onO_out, onO_ite, on_ite, onO_seq, onO_skip, onO_if, onO_ret, onO_set, onO_ex, onO_for, on_bindI, on_okI, on_badI, fCall, fCons, fNil, fPv, fC, fOp, fTest, fNotT, fAndT, fOrT, fAndV, fOrV, fNotV, fIf, fTup, fLst, fLstM, fSl, fPart, fNoP, fMethL, fNeg, fPut, fPar, fAsg, fYes, List.getElem?_cons_zero, List.getElem?_cons_succ, List.set_cons_zero, List.set_cons_succ, List.map_cons, List.map_nil, List.nil_append, List.cons_append, List.length_cons, List.length_nil, List.reduceReplicate, Nat.reduceSub, Nat.reduceAdd, Nat.zero_add, Bool.not_true, Bool.not_false, if_true, if_false, reduceIte, Bool.false_eq_true, reduceCtorEq, datas, Option.map_some, Option.bind_some, e_add, e_sub, e_lt, e_le, e_gt, e_ge, e_eqI, e_eqB, e_neI, e_neT, e_lenL, e_lenT, ixN43, ixN42, ixN41, ixN10, decide_true, decide_false, show (3 : Nat) ≤ sizeLine from by decide]
  have fr' := fr.trans fr3
  exact fin_drop fr' fl3 ⟨.whr w d, rfl, ⟨hw, hd⟩, fd3.up (by omega), fr', fl3⟩
end Fu

set_option Elab.async false
set_option linter.all false
set_option maxRecDepth 100000
set_option maxHeartbeats 1000000
/-! The program's own functions, the first ones. -/
namespace Fu
open PySem PySem.Spec PyProof.Rows L2 Dat LamX PySem.W
/-- the plains of the values that are looked at -/
def PX : List PyData := PL ++ (List.range 25).map fun i => PyData.int (i : Nat)
inductive VG : Nat → PyData → Prop
  | plain {n : Nat} {d : PyData} : d ∈ PX → VG n d
  | row {n : Nat} {ds : List PyData} : ds.length ≤ 30 → (∀ d ∈ ds, VG n d) → VG (n + 1) (rowD ds)
  | tree {n : Nat} {es : List (Str × PyData)} : es.length ≤ 30 → (∀ e ∈ es, e.1 ∈ WL) → (es.map (·.1)).Nodup → (∀ e ∈ es, VG n e.2) → VG (n + 1) (treeD es)
theorem rise_nodup {es : List (Str × PyData)} (h : Rise es) : (es.map (·.1)).Nodup := h.imp fun {a b} z e => by
  rw [e] at z
  exact List.lt_irrefl _ z
theorem VD.vg {n : Nat} {d : PyData} (h : VD n d) : VG n d := by
  induction h with
  | plain h => exact .plain (List.mem_append_left _ h)
  | row h _ ih => exact .row (by omega) ih
  | tree h k _ ih => exact .tree (by omega) k.pool (rise_nodup k.rise) ih
theorem px_ok : ∀ d ∈ PX, okD d = true ∧ isT d = false ∧ szD d = 200 ∧ d.depth = 0 := by decide +kernel
theorem wl_ok : ∀ w ∈ WL, okD (.str w) = true := by decide +kernel
theorem wq_ok : ∀ w ∈ WQ, okD (.str w) = true := by decide +kernel
theorem dAll_le {n : Nat} : ∀ {ds : List PyData}, (∀ d ∈ ds, d.depth ≤ n) → PyData.depthAll ds ≤ n
  | [], _ => by simp [PyData.depthAll]
  | d :: ds, h => by
    have h1 := h d List.mem_cons_self
    have h2 := dAll_le (ds := ds) fun y hy => h y (List.mem_cons_of_mem _ hy)
    simp only [PyData.depthAll]
    omega
theorem dep_tup {n : Nat} {ds : List PyData} (h : ∀ d ∈ ds, d.depth ≤ n) : (PyData.tuple ds).depth ≤ n + 1 := by
  have := dAll_le h
  simp only [PyData.depth]
  omega
theorem ok_tup {ds : List PyData} (hl : ds.length ≤ 100) (h : ∀ d ∈ ds, okD d = true) : okD (.tuple ds) = true := by
  simp only [okD, Bool.and_eq_true, decide_eq_true_eq]
  exact ⟨hl, okDs_all.mpr h⟩
theorem vg_ok {n : Nat} {d : PyData} (h : VG n d) : okD d = true ∧ d.depth ≤ 3 * n := by
  induction h with
  | plain h => exact ⟨(px_ok _ h).1, by rw [(px_ok _ h).2.2.2]; omega⟩
  | @row n ds hl _ ih =>
    refine ⟨ok_tup (by simp) fun x hx => ?_, Nat.le_trans (dep_tup (n := 3 * n + 1) fun x hx => ?_) (by omega)⟩
    · simp only [List.mem_cons, List.not_mem_nil, or_false] at hx
      rcases hx with rfl | rfl
      · decide +kernel
      · exact ok_tup (by omega) fun y hy => (ih y hy).1
    · simp only [List.mem_cons, List.not_mem_nil, or_false] at hx
      rcases hx with rfl | rfl
      · simp [PyData.depth]
      · exact dep_tup fun y hy => (ih y hy).2
  | @tree n es hl hw _ _ ih =>
    have hp : ∀ x ∈ es.map pairD, okD x = true ∧ x.depth ≤ 3 * n + 1 := fun x hx => by
      obtain ⟨e, he, rfl⟩ := List.mem_map.mp hx
      refine ⟨ok_tup (by simp) fun y hy => ?_, dep_tup fun y hy => ?_⟩
      · simp only [List.mem_cons, List.not_mem_nil, or_false] at hy
        rcases hy with rfl | rfl
        · exact wl_ok _ (hw e he)
        · exact (ih e he).1
      · simp only [List.mem_cons, List.not_mem_nil, or_false] at hy
        rcases hy with rfl | rfl
        · simp [PyData.depth]
        · exact (ih e he).2
    refine ⟨ok_tup (by simp) fun x hx => ?_, Nat.le_trans (dep_tup (n := 3 * n + 2) fun x hx => ?_) (by omega)⟩
    · simp only [List.mem_cons, List.not_mem_nil, or_false] at hx
      rcases hx with rfl | rfl
      · decide +kernel
      · exact ok_tup (by rw [List.length_map]; omega) fun y hy => (hp y hy).1
    · simp only [List.mem_cons, List.not_mem_nil, or_false] at hx
      rcases hx with rfl | rfl
      · simp [PyData.depth]
      · exact dep_tup fun y hy => (hp y hy).2
theorem vg_shaped {n : Nat} {d : PyData} (h : VG n d) (hn : n ≤ 20) : SeqAt.shaped d = true := shaped_ok (vg_ok h).1 (by have := (vg_ok h).2; omega)
theorem str_shaped {x : Str} (h : okD (.str x) = true) : SeqAt.shaped (.str x) = true := shaped_ok h (by simp [PyData.depth])
theorem get_ok {r : Res Wv} {a : Wv} {M : Sto} (h : r.on fun w M' => w = a ∧ M' = M) : r = .ok a M := by
  obtain ⟨w, M', e, rfl, rfl⟩ := on_eq h
  exact e
theorem fin_same {M : Sto} {d : PyData} {p : Wv → Sto → Prop} (fl : Flat M) (h : p (.d d) M) : DropP M p (.d d) M := fin_drop (Fr.refl [] M) fl h
theorem fin_more {M M' more : Sto} {d : PyData} {p : Wv → Sto → Prop} (e : M' = M ++ more) (fl : Flat M') (h : p (.d d) M) : DropP M p (.d d) M' :=
  ⟨d, rfl, by rw [e, List.length_append]; omega, fl, by rw [e, List.take_left]; exact h⟩
theorem isi_tup {d : PyData} {M : Sto} : oIsi [.d d, .t "tuple"] M = .ok (.d (.bool (isT d))) M := by
  cases d <;> rfl
theorem isi_bool {d : PyData} {M : Sto} : oIsi [.d d, .t "bool"] M = .ok (.d (.bool (isB d))) M := by
  cases d <;> rfl
theorem isi_str {d : PyData} {M : Sto} : oIsi [.d d, .t "str"] M = .ok (.d (.bool (isS d))) M := by
  cases d <;> rfl
def isTr : PyData → Bool
  | .tuple (.str w :: _) => decide (w = ("tree" : Str))
  | _ => false
def isRw : PyData → Bool
  | .tuple (.str w :: _) => decide (w = ("row" : Str))
  | _ => false
theorem eqv_str (a b : Str) : PyData.eqv (.str a) (.str b) = decide (a = b) := by
  simp only [PyData.eqv]
  by_cases h : a = b <;> simp [h]
theorem sh_tree : SeqAt.shaped (.str "tree") = true := by decide +kernel
theorem sh_row : SeqAt.shaped (.str "row") = true := by decide +kernel
theorem isTr_tree (es : List (Str × PyData)) : isTr (treeD es) = true := by simp [treeD, isTr]
theorem isTr_row (ds : List PyData) : isTr (rowD ds) = false := by
  simp only [rowD, isTr, decide_eq_false_iff_not]
  decide
theorem isRw_row (ds : List PyData) : isRw (rowD ds) = true := by simp [rowD, isRw]
theorem isRw_tree (es : List (Str × PyData)) : isRw (treeD es) = false := by
  simp only [treeD, isRw, decide_eq_false_iff_not]
  decide
theorem isTr_plain {d : PyData} (h : isT d = false) : isTr d = false := by cases d <;> simp_all [isTr, isT]
theorem isRw_plain {d : PyData} (h : isT d = false) : isRw d = false := by cases d <;> simp_all [isRw, isT]
theorem at0 {a : PyData} {as : List PyData} : atI (a :: as) 0 = some a := by
  unfold atI ixN
  simp
theorem at1 {a b : PyData} {as : List PyData} : atI (a :: b :: as) 1 = some b := by
  unfold atI ixN
  rw [if_pos (by decide), if_pos (by simp only [List.length_cons]; omega)]
  rfl
theorem isrow_eq {n : Nat} {d : PyData} {M : Sto} (h : VG n d) (fl : Flat M) : F_isrow [.d d] M = .ok (.d (.bool (isRw d))) M := by
  refine get_ok ?_
  unfold F_isrow
  refine drop_on (fn_on rfl ?_)
  unfold B_isrow
  try simp only [onO_nx, onO_rt, onO_bad, onO_out, onO_ite, on_ite, onO_seq, onO_skip, onO_if, onO_ret, onO_set, onO_ex, onO_for, on_bindI, on_okI, on_badI, fCall, fCons, fNil, fPv, fC, fOp, fTest, fNotT, fAndT, fOrT, fAndV, fOrV, fNotV, fIf, fTup, fLst, fLstM, fSl, fPart, fNoP, fMethL, fNeg, fPut, fPar, fAsg, fYes, List.getElem?_cons_zero, List.getElem?_cons_succ, List.set_cons_zero, List.set_cons_succ, List.map_cons, List.map_nil, List.nil_append, List.cons_append, List.length_cons, List.length_nil, List.reduceReplicate, Nat.reduceSub, Nat.reduceAdd, Nat.zero_add, Bool.not_true, Bool.not_false, if_true, if_false, reduceIte, Bool.false_eq_true, reduceCtorEq, datas, Option.map_some, Option.bind_some, e_add, e_sub, e_lt, e_le, e_gt, e_ge, e_eqI, e_eqB, e_neI, e_neT, e_lenL, e_lenT, ixN43, ixN42, ixN41, ixN10, decide_true, decide_false, isi_tup]
  cases h with
  | plain h =>
    rw [(px_ok _ h).2.1]
    try simp only [onO_nx, onO_rt, onO_bad, onO_out, onO_ite, on_ite, onO_seq, onO_skip, onO_if, onO_ret, onO_set, onO_ex, onO_for, on_bindI, on_okI, on_badI, fCall, fCons, fNil, fPv, fC, fOp, fTest, fNotT, fAndT, fOrT, fAndV, fOrV, fNotV, fIf, fTup, fLst, fLstM, fSl, fPart, fNoP, fMethL, fNeg, fPut, fPar, fAsg, fYes, List.getElem?_cons_zero, List.getElem?_cons_succ, List.set_cons_zero, List.set_cons_succ, List.map_cons, List.map_nil, List.nil_append, List.cons_append, List.length_cons, List.length_nil, List.reduceReplicate, Nat.reduceSub, Nat.reduceAdd, Nat.zero_add, Bool.not_true, Bool.not_false, if_true, if_false, reduceIte, Bool.false_eq_true, reduceCtorEq, datas, Option.map_some, Option.bind_some, e_add, e_sub, e_lt, e_le, e_gt, e_ge, e_eqI, e_eqB, e_neI, e_neT, e_lenL, e_lenT, ixN43, ixN42, ixN41, ixN10, decide_true, decide_false]
    exact fin_same fl ⟨by rw [isRw_plain (px_ok _ h).2.1], rfl⟩
  | row _ _ =>
    simp only [rowD, isT]
    try simp only [onO_nx, onO_rt, onO_bad, onO_out, onO_ite, on_ite, onO_seq, onO_skip, onO_if, onO_ret, onO_set, onO_ex, onO_for, on_bindI, on_okI, on_badI, fCall, fCons, fNil, fPv, fC, fOp, fTest, fNotT, fAndT, fOrT, fAndV, fOrV, fNotV, fIf, fTup, fLst, fLstM, fSl, fPart, fNoP, fMethL, fNeg, fPut, fPar, fAsg, fYes, List.getElem?_cons_zero, List.getElem?_cons_succ, List.set_cons_zero, List.set_cons_succ, List.map_cons, List.map_nil, List.nil_append, List.cons_append, List.length_cons, List.length_nil, List.reduceReplicate, Nat.reduceSub, Nat.reduceAdd, Nat.zero_add, Bool.not_true, Bool.not_false, if_true, if_false, reduceIte, Bool.false_eq_true, reduceCtorEq, datas, Option.map_some, Option.bind_some, e_add, e_sub, e_lt, e_le, e_gt, e_ge, e_eqI, e_eqB, e_neI, e_neT, e_lenL, e_lenT, ixN43, ixN42, ixN41, ixN10, decide_true, decide_false]
    rw [ixTd at0]
    try simp only [onO_nx, onO_rt, onO_bad, onO_out, onO_ite, on_ite, onO_seq, onO_skip, onO_if, onO_ret, onO_set, onO_ex, onO_for, on_bindI, on_okI, on_badI, fCall, fCons, fNil, fPv, fC, fOp, fTest, fNotT, fAndT, fOrT, fAndV, fOrV, fNotV, fIf, fTup, fLst, fLstM, fSl, fPart, fNoP, fMethL, fNeg, fPut, fPar, fAsg, fYes, List.getElem?_cons_zero, List.getElem?_cons_succ, List.set_cons_zero, List.set_cons_succ, List.map_cons, List.map_nil, List.nil_append, List.cons_append, List.length_cons, List.length_nil, List.reduceReplicate, Nat.reduceSub, Nat.reduceAdd, Nat.zero_add, Bool.not_true, Bool.not_false, if_true, if_false, reduceIte, Bool.false_eq_true, reduceCtorEq, datas, Option.map_some, Option.bind_some, e_add, e_sub, e_lt, e_le, e_gt, e_ge, e_eqI, e_eqB, e_neI, e_neT, e_lenL, e_lenT, ixN43, ixN42, ixN41, ixN10, decide_true, decide_false]
    rw [e_eqD (by rw [sh_row]; rfl), eqv_str]
    try simp only [onO_nx, onO_rt, onO_bad, onO_out, onO_ite, on_ite, onO_seq, onO_skip, onO_if, onO_ret, onO_set, onO_ex, onO_for, on_bindI, on_okI, on_badI, fCall, fCons, fNil, fPv, fC, fOp, fTest, fNotT, fAndT, fOrT, fAndV, fOrV, fNotV, fIf, fTup, fLst, fLstM, fSl, fPart, fNoP, fMethL, fNeg, fPut, fPar, fAsg, fYes, List.getElem?_cons_zero, List.getElem?_cons_succ, List.set_cons_zero, List.set_cons_succ, List.map_cons, List.map_nil, List.nil_append, List.cons_append, List.length_cons, List.length_nil, List.reduceReplicate, Nat.reduceSub, Nat.reduceAdd, Nat.zero_add, Bool.not_true, Bool.not_false, if_true, if_false, reduceIte, Bool.false_eq_true, reduceCtorEq, datas, Option.map_some, Option.bind_some, e_add, e_sub, e_lt, e_le, e_gt, e_ge, e_eqI, e_eqB, e_neI, e_neT, e_lenL, e_lenT, ixN43, ixN42, ixN41, ixN10, decide_true, decide_false]
    exact fin_same fl ⟨by simp [isRw], rfl⟩
  | tree _ _ _ _ =>
    simp only [treeD, isT]
    try simp only [onO_nx, onO_rt, onO_bad, onO_out, onO_ite, on_ite, onO_seq, onO_skip, onO_if, onO_ret, onO_set, onO_ex, onO_for, on_bindI, on_okI, on_badI, fCall, fCons, fNil, fPv, fC, fOp, fTest, fNotT, fAndT, fOrT, fAndV, fOrV, fNotV, fIf, fTup, fLst, fLstM, fSl, fPart, fNoP, fMethL, fNeg, fPut, fPar, fAsg, fYes, List.getElem?_cons_zero, List.getElem?_cons_succ, List.set_cons_zero, List.set_cons_succ, List.map_cons, List.map_nil, List.nil_append, List.cons_append, List.length_cons, List.length_nil, List.reduceReplicate, Nat.reduceSub, Nat.reduceAdd, Nat.zero_add, Bool.not_true, Bool.not_false, if_true, if_false, reduceIte, Bool.false_eq_true, reduceCtorEq, datas, Option.map_some, Option.bind_some, e_add, e_sub, e_lt, e_le, e_gt, e_ge, e_eqI, e_eqB, e_neI, e_neT, e_lenL, e_lenT, ixN43, ixN42, ixN41, ixN10, decide_true, decide_false]
    rw [ixTd at0]
    try simp only [onO_nx, onO_rt, onO_bad, onO_out, onO_ite, on_ite, onO_seq, onO_skip, onO_if, onO_ret, onO_set, onO_ex, onO_for, on_bindI, on_okI, on_badI, fCall, fCons, fNil, fPv, fC, fOp, fTest, fNotT, fAndT, fOrT, fAndV, fOrV, fNotV, fIf, fTup, fLst, fLstM, fSl, fPart, fNoP, fMethL, fNeg, fPut, fPar, fAsg, fYes, List.getElem?_cons_zero, List.getElem?_cons_succ, List.set_cons_zero, List.set_cons_succ, List.map_cons, List.map_nil, List.nil_append, List.cons_append, List.length_cons, List.length_nil, List.reduceReplicate, Nat.reduceSub, Nat.reduceAdd, Nat.zero_add, Bool.not_true, Bool.not_false, if_true, if_false, reduceIte, Bool.false_eq_true, reduceCtorEq, datas, Option.map_some, Option.bind_some, e_add, e_sub, e_lt, e_le, e_gt, e_ge, e_eqI, e_eqB, e_neI, e_neT, e_lenL, e_lenT, ixN43, ixN42, ixN41, ixN10, decide_true, decide_false]
    rw [e_eqD (by rw [sh_row, sh_tree]; rfl), eqv_str]
    try simp only [onO_nx, onO_rt, onO_bad, onO_out, onO_ite, on_ite, onO_seq, onO_skip, onO_if, onO_ret, onO_set, onO_ex, onO_for, on_bindI, on_okI, on_badI, fCall, fCons, fNil, fPv, fC, fOp, fTest, fNotT, fAndT, fOrT, fAndV, fOrV, fNotV, fIf, fTup, fLst, fLstM, fSl, fPart, fNoP, fMethL, fNeg, fPut, fPar, fAsg, fYes, List.getElem?_cons_zero, List.getElem?_cons_succ, List.set_cons_zero, List.set_cons_succ, List.map_cons, List.map_nil, List.nil_append, List.cons_append, List.length_cons, List.length_nil, List.reduceReplicate, Nat.reduceSub, Nat.reduceAdd, Nat.zero_add, Bool.not_true, Bool.not_false, if_true, if_false, reduceIte, Bool.false_eq_true, reduceCtorEq, datas, Option.map_some, Option.bind_some, e_add, e_sub, e_lt, e_le, e_gt, e_ge, e_eqI, e_eqB, e_neI, e_neT, e_lenL, e_lenT, ixN43, ixN42, ixN41, ixN10, decide_true, decide_false]
    exact fin_same fl ⟨by simp [isRw], rfl⟩
theorem istree_eq {n : Nat} {d : PyData} {M : Sto} (h : VG n d) (fl : Flat M) : F_istree [.d d] M = .ok (.d (.bool (isTr d))) M := by
  refine get_ok ?_
  unfold F_istree
  refine drop_on (fn_on rfl ?_)
  unfold B_istree
  try simp only [onO_nx, onO_rt, onO_bad, onO_out, onO_ite, on_ite, onO_seq, onO_skip, onO_if, onO_ret, onO_set, onO_ex, onO_for, on_bindI, on_okI, on_badI, fCall, fCons, fNil, fPv, fC, fOp, fTest, fNotT, fAndT, fOrT, fAndV, fOrV, fNotV, fIf, fTup, fLst, fLstM, fSl, fPart, fNoP, fMethL, fNeg, fPut, fPar, fAsg, fYes, List.getElem?_cons_zero, List.getElem?_cons_succ, List.set_cons_zero, List.set_cons_succ, List.map_cons, List.map_nil, List.nil_append, List.cons_append, List.length_cons, List.length_nil, List.reduceReplicate, Nat.reduceSub, Nat.reduceAdd, Nat.zero_add, Bool.not_true, Bool.not_false, if_true, if_false, reduceIte, Bool.false_eq_true, reduceCtorEq, datas, Option.map_some, Option.bind_some, e_add, e_sub, e_lt, e_le, e_gt, e_ge, e_eqI, e_eqB, e_neI, e_neT, e_lenL, e_lenT, ixN43, ixN42, ixN41, ixN10, decide_true, decide_false, isi_tup]
  cases h with
  | plain h =>
    rw [(px_ok _ h).2.1]
    try simp only [onO_nx, onO_rt, onO_bad, onO_out, onO_ite, on_ite, onO_seq, onO_skip, onO_if, onO_ret, onO_set, onO_ex, onO_for, on_bindI, on_okI, on_badI, fCall, fCons, fNil, fPv, fC, fOp, fTest, fNotT, fAndT, fOrT, fAndV, fOrV, fNotV, fIf, fTup, fLst, fLstM, fSl, fPart, fNoP, fMethL, fNeg, fPut, fPar, fAsg, fYes, List.getElem?_cons_zero, List.getElem?_cons_succ, List.set_cons_zero, List.set_cons_succ, List.map_cons, List.map_nil, List.nil_append, List.cons_append, List.length_cons, List.length_nil, List.reduceReplicate, Nat.reduceSub, Nat.reduceAdd, Nat.zero_add, Bool.not_true, Bool.not_false, if_true, if_false, reduceIte, Bool.false_eq_true, reduceCtorEq, datas, Option.map_some, Option.bind_some, e_add, e_sub, e_lt, e_le, e_gt, e_ge, e_eqI, e_eqB, e_neI, e_neT, e_lenL, e_lenT, ixN43, ixN42, ixN41, ixN10, decide_true, decide_false]
    exact fin_same fl ⟨by rw [isTr_plain (px_ok _ h).2.1], rfl⟩
  | row _ _ =>
    simp only [rowD, isT]
    try simp only [onO_nx, onO_rt, onO_bad, onO_out, onO_ite, on_ite, onO_seq, onO_skip, onO_if, onO_ret, onO_set, onO_ex, onO_for, on_bindI, on_okI, on_badI, fCall, fCons, fNil, fPv, fC, fOp, fTest, fNotT, fAndT, fOrT, fAndV, fOrV, fNotV, fIf, fTup, fLst, fLstM, fSl, fPart, fNoP, fMethL, fNeg, fPut, fPar, fAsg, fYes, List.getElem?_cons_zero, List.getElem?_cons_succ, List.set_cons_zero, List.set_cons_succ, List.map_cons, List.map_nil, List.nil_append, List.cons_append, List.length_cons, List.length_nil, List.reduceReplicate, Nat.reduceSub, Nat.reduceAdd, Nat.zero_add, Bool.not_true, Bool.not_false, if_true, if_false, reduceIte, Bool.false_eq_true, reduceCtorEq, datas, Option.map_some, Option.bind_some, e_add, e_sub, e_lt, e_le, e_gt, e_ge, e_eqI, e_eqB, e_neI, e_neT, e_lenL, e_lenT, ixN43, ixN42, ixN41, ixN10, decide_true, decide_false]
    rw [ixTd at0]
    try simp only [onO_nx, onO_rt, onO_bad, onO_out, onO_ite, on_ite, onO_seq, onO_skip, onO_if, onO_ret, onO_set, onO_ex, onO_for, on_bindI, on_okI, on_badI, fCall, fCons, fNil, fPv, fC, fOp, fTest, fNotT, fAndT, fOrT, fAndV, fOrV, fNotV, fIf, fTup, fLst, fLstM, fSl, fPart, fNoP, fMethL, fNeg, fPut, fPar, fAsg, fYes, List.getElem?_cons_zero, List.getElem?_cons_succ, List.set_cons_zero, List.set_cons_succ, List.map_cons, List.map_nil, List.nil_append, List.cons_append, List.length_cons, List.length_nil, List.reduceReplicate, Nat.reduceSub, Nat.reduceAdd, Nat.zero_add, Bool.not_true, Bool.not_false, if_true, if_false, reduceIte, Bool.false_eq_true, reduceCtorEq, datas, Option.map_some, Option.bind_some, e_add, e_sub, e_lt, e_le, e_gt, e_ge, e_eqI, e_eqB, e_neI, e_neT, e_lenL, e_lenT, ixN43, ixN42, ixN41, ixN10, decide_true, decide_false]
    rw [e_eqD (by rw [sh_row, sh_tree]; rfl), eqv_str]
    try simp only [onO_nx, onO_rt, onO_bad, onO_out, onO_ite, on_ite, onO_seq, onO_skip, onO_if, onO_ret, onO_set, onO_ex, onO_for, on_bindI, on_okI, on_badI, fCall, fCons, fNil, fPv, fC, fOp, fTest, fNotT, fAndT, fOrT, fAndV, fOrV, fNotV, fIf, fTup, fLst, fLstM, fSl, fPart, fNoP, fMethL, fNeg, fPut, fPar, fAsg, fYes, List.getElem?_cons_zero, List.getElem?_cons_succ, List.set_cons_zero, List.set_cons_succ, List.map_cons, List.map_nil, List.nil_append, List.cons_append, List.length_cons, List.length_nil, List.reduceReplicate, Nat.reduceSub, Nat.reduceAdd, Nat.zero_add, Bool.not_true, Bool.not_false, if_true, if_false, reduceIte, Bool.false_eq_true, reduceCtorEq, datas, Option.map_some, Option.bind_some, e_add, e_sub, e_lt, e_le, e_gt, e_ge, e_eqI, e_eqB, e_neI, e_neT, e_lenL, e_lenT, ixN43, ixN42, ixN41, ixN10, decide_true, decide_false]
    exact fin_same fl ⟨by simp [isTr], rfl⟩
  | tree _ _ _ _ =>
    simp only [treeD, isT]
    try simp only [onO_nx, onO_rt, onO_bad, onO_out, onO_ite, on_ite, onO_seq, onO_skip, onO_if, onO_ret, onO_set, onO_ex, onO_for, on_bindI, on_okI, on_badI, fCall, fCons, fNil, fPv, fC, fOp, fTest, fNotT, fAndT, fOrT, fAndV, fOrV, fNotV, fIf, fTup, fLst, fLstM, fSl, fPart, fNoP, fMethL, fNeg, fPut, fPar, fAsg, fYes, List.getElem?_cons_zero, List.getElem?_cons_succ, List.set_cons_zero, List.set_cons_succ, List.map_cons, List.map_nil, List.nil_append, List.cons_append, List.length_cons, List.length_nil, List.reduceReplicate, Nat.reduceSub, Nat.reduceAdd, Nat.zero_add, Bool.not_true, Bool.not_false, if_true, if_false, reduceIte, Bool.false_eq_true, reduceCtorEq, datas, Option.map_some, Option.bind_some, e_add, e_sub, e_lt, e_le, e_gt, e_ge, e_eqI, e_eqB, e_neI, e_neT, e_lenL, e_lenT, ixN43, ixN42, ixN41, ixN10, decide_true, decide_false]
    rw [ixTd at0]
    try simp only [onO_nx, onO_rt, onO_bad, onO_out, onO_ite, on_ite, onO_seq, onO_skip, onO_if, onO_ret, onO_set, onO_ex, onO_for, on_bindI, on_okI, on_badI, fCall, fCons, fNil, fPv, fC, fOp, fTest, fNotT, fAndT, fOrT, fAndV, fOrV, fNotV, fIf, fTup, fLst, fLstM, fSl, fPart, fNoP, fMethL, fNeg, fPut, fPar, fAsg, fYes, List.getElem?_cons_zero, List.getElem?_cons_succ, List.set_cons_zero, List.set_cons_succ, List.map_cons, List.map_nil, List.nil_append, List.cons_append, List.length_cons, List.length_nil, List.reduceReplicate, Nat.reduceSub, Nat.reduceAdd, Nat.zero_add, Bool.not_true, Bool.not_false, if_true, if_false, reduceIte, Bool.false_eq_true, reduceCtorEq, datas, Option.map_some, Option.bind_some, e_add, e_sub, e_lt, e_le, e_gt, e_ge, e_eqI, e_eqB, e_neI, e_neT, e_lenL, e_lenT, ixN43, ixN42, ixN41, ixN10, decide_true, decide_false]
    rw [e_eqD (by rw [sh_tree]; rfl), eqv_str]
    try simp only [onO_nx, onO_rt, onO_bad, onO_out, onO_ite, on_ite, onO_seq, onO_skip, onO_if, onO_ret, onO_set, onO_ex, onO_for, on_bindI, on_okI, on_badI, fCall, fCons, fNil, fPv, fC, fOp, fTest, fNotT, fAndT, fOrT, fAndV, fOrV, fNotV, fIf, fTup, fLst, fLstM, fSl, fPart, fNoP, fMethL, fNeg, fPut, fPar, fAsg, fYes, List.getElem?_cons_zero, List.getElem?_cons_succ, List.set_cons_zero, List.set_cons_succ, List.map_cons, List.map_nil, List.nil_append, List.cons_append, List.length_cons, List.length_nil, List.reduceReplicate, Nat.reduceSub, Nat.reduceAdd, Nat.zero_add, Bool.not_true, Bool.not_false, if_true, if_false, reduceIte, Bool.false_eq_true, reduceCtorEq, datas, Option.map_some, Option.bind_some, e_add, e_sub, e_lt, e_le, e_gt, e_ge, e_eqI, e_eqB, e_neI, e_neT, e_lenL, e_lenT, ixN43, ixN42, ixN41, ixN10, decide_true, decide_false]
    exact fin_same fl ⟨by simp [isTr], rfl⟩
/-- this law's own look at the word ahead -/
def isA (k : Str) : PyData → Bool
  | .tuple (.str w :: _) => decide (w = k)
  | _ => false
theorem isA_tree : isA "tree" = isTr := by
  funext d
  unfold isA isTr
  split <;> rfl
theorem isA_row : isA "row" = isRw := by
  funext d
  unfold isA isRw
  split <;> rfl
theorem lisa_eq {n : Nat} {d : PyData} {M : Sto} {k : Str} (h : VG n d) (fl : Flat M) (hk : okD (.str k) = true) : F_lisa [.d d, .d (.str k)] M = .ok (.d (.bool (isA k d))) M := by
  refine get_ok ?_
  unfold F_lisa
  refine drop_on (fn_on rfl ?_)
  unfold B_lisa
  try simp only [onO_nx, onO_rt, onO_bad, onO_out, onO_ite, on_ite, onO_seq, onO_skip, onO_if, onO_ret, onO_set, onO_ex, onO_for, on_bindI, on_okI, on_badI, fCall, fCons, fNil, fPv, fC, fOp, fTest, fNotT, fAndT, fOrT, fAndV, fOrV, fNotV, fIf, fTup, fLst, fLstM, fSl, fPart, fNoP, fMethL, fNeg, fPut, fPar, fAsg, fYes, List.getElem?_cons_zero, List.getElem?_cons_succ, List.set_cons_zero, List.set_cons_succ, List.map_cons, List.map_nil, List.nil_append, List.cons_append, List.length_cons, List.length_nil, List.reduceReplicate, Nat.reduceSub, Nat.reduceAdd, Nat.zero_add, Bool.not_true, Bool.not_false, if_true, if_false, reduceIte, Bool.false_eq_true, reduceCtorEq, datas, Option.map_some, Option.bind_some, e_add, e_sub, e_lt, e_le, e_gt, e_ge, e_eqI, e_eqB, e_neI, e_neT, e_lenL, e_lenT, ixN43, ixN42, ixN41, ixN10, decide_true, decide_false, isi_tup]
  cases h with
  | plain h =>
    rw [(px_ok _ h).2.1]
    try simp only [onO_nx, onO_rt, onO_bad, onO_out, onO_ite, on_ite, onO_seq, onO_skip, onO_if, onO_ret, onO_set, onO_ex, onO_for, on_bindI, on_okI, on_badI, fCall, fCons, fNil, fPv, fC, fOp, fTest, fNotT, fAndT, fOrT, fAndV, fOrV, fNotV, fIf, fTup, fLst, fLstM, fSl, fPart, fNoP, fMethL, fNeg, fPut, fPar, fAsg, fYes, List.getElem?_cons_zero, List.getElem?_cons_succ, List.set_cons_zero, List.set_cons_succ, List.map_cons, List.map_nil, List.nil_append, List.cons_append, List.length_cons, List.length_nil, List.reduceReplicate, Nat.reduceSub, Nat.reduceAdd, Nat.zero_add, Bool.not_true, Bool.not_false, if_true, if_false, reduceIte, Bool.false_eq_true, reduceCtorEq, datas, Option.map_some, Option.bind_some, e_add, e_sub, e_lt, e_le, e_gt, e_ge, e_eqI, e_eqB, e_neI, e_neT, e_lenL, e_lenT, ixN43, ixN42, ixN41, ixN10, decide_true, decide_false]
    refine fin_same fl ⟨?_, rfl⟩
    have := (px_ok _ h).2.1
    cases d <;> simp_all [isA, isT]
  | row _ _ =>
    simp only [rowD, isT]
    try simp only [onO_nx, onO_rt, onO_bad, onO_out, onO_ite, on_ite, onO_seq, onO_skip, onO_if, onO_ret, onO_set, onO_ex, onO_for, on_bindI, on_okI, on_badI, fCall, fCons, fNil, fPv, fC, fOp, fTest, fNotT, fAndT, fOrT, fAndV, fOrV, fNotV, fIf, fTup, fLst, fLstM, fSl, fPart, fNoP, fMethL, fNeg, fPut, fPar, fAsg, fYes, List.getElem?_cons_zero, List.getElem?_cons_succ, List.set_cons_zero, List.set_cons_succ, List.map_cons, List.map_nil, List.nil_append, List.cons_append, List.length_cons, List.length_nil, List.reduceReplicate, Nat.reduceSub, Nat.reduceAdd, Nat.zero_add, Bool.not_true, Bool.not_false, if_true, if_false, reduceIte, Bool.false_eq_true, reduceCtorEq, datas, Option.map_some, Option.bind_some, e_add, e_sub, e_lt, e_le, e_gt, e_ge, e_eqI, e_eqB, e_neI, e_neT, e_lenL, e_lenT, ixN43, ixN42, ixN41, ixN10, decide_true, decide_false]
    rw [ixTd at0]
    try simp only [onO_nx, onO_rt, onO_bad, onO_out, onO_ite, on_ite, onO_seq, onO_skip, onO_if, onO_ret, onO_set, onO_ex, onO_for, on_bindI, on_okI, on_badI, fCall, fCons, fNil, fPv, fC, fOp, fTest, fNotT, fAndT, fOrT, fAndV, fOrV, fNotV, fIf, fTup, fLst, fLstM, fSl, fPart, fNoP, fMethL, fNeg, fPut, fPar, fAsg, fYes, List.getElem?_cons_zero, List.getElem?_cons_succ, List.set_cons_zero, List.set_cons_succ, List.map_cons, List.map_nil, List.nil_append, List.cons_append, List.length_cons, List.length_nil, List.reduceReplicate, Nat.reduceSub, Nat.reduceAdd, Nat.zero_add, Bool.not_true, Bool.not_false, if_true, if_false, reduceIte, Bool.false_eq_true, reduceCtorEq, datas, Option.map_some, Option.bind_some, e_add, e_sub, e_lt, e_le, e_gt, e_ge, e_eqI, e_eqB, e_neI, e_neT, e_lenL, e_lenT, ixN43, ixN42, ixN41, ixN10, decide_true, decide_false]
    rw [e_eqD (by rw [sh_row, str_shaped hk]; rfl), eqv_str]
    try simp only [onO_nx, onO_rt, onO_bad, onO_out, onO_ite, on_ite, onO_seq, onO_skip, onO_if, onO_ret, onO_set, onO_ex, onO_for, on_bindI, on_okI, on_badI, fCall, fCons, fNil, fPv, fC, fOp, fTest, fNotT, fAndT, fOrT, fAndV, fOrV, fNotV, fIf, fTup, fLst, fLstM, fSl, fPart, fNoP, fMethL, fNeg, fPut, fPar, fAsg, fYes, List.getElem?_cons_zero, List.getElem?_cons_succ, List.set_cons_zero, List.set_cons_succ, List.map_cons, List.map_nil, List.nil_append, List.cons_append, List.length_cons, List.length_nil, List.reduceReplicate, Nat.reduceSub, Nat.reduceAdd, Nat.zero_add, Bool.not_true, Bool.not_false, if_true, if_false, reduceIte, Bool.false_eq_true, reduceCtorEq, datas, Option.map_some, Option.bind_some, e_add, e_sub, e_lt, e_le, e_gt, e_ge, e_eqI, e_eqB, e_neI, e_neT, e_lenL, e_lenT, ixN43, ixN42, ixN41, ixN10, decide_true, decide_false]
    exact fin_same fl ⟨by simp [isA], rfl⟩
  | tree _ _ _ _ =>
    simp only [treeD, isT]
    try simp only [onO_nx, onO_rt, onO_bad, onO_out, onO_ite, on_ite, onO_seq, onO_skip, onO_if, onO_ret, onO_set, onO_ex, onO_for, on_bindI, on_okI, on_badI, fCall, fCons, fNil, fPv, fC, fOp, fTest, fNotT, fAndT, fOrT, fAndV, fOrV, fNotV, fIf, fTup, fLst, fLstM, fSl, fPart, fNoP, fMethL, fNeg, fPut, fPar, fAsg, fYes, List.getElem?_cons_zero, List.getElem?_cons_succ, List.set_cons_zero, List.set_cons_succ, List.map_cons, List.map_nil, List.nil_append, List.cons_append, List.length_cons, List.length_nil, List.reduceReplicate, Nat.reduceSub, Nat.reduceAdd, Nat.zero_add, Bool.not_true, Bool.not_false, if_true, if_false, reduceIte, Bool.false_eq_true, reduceCtorEq, datas, Option.map_some, Option.bind_some, e_add, e_sub, e_lt, e_le, e_gt, e_ge, e_eqI, e_eqB, e_neI, e_neT, e_lenL, e_lenT, ixN43, ixN42, ixN41, ixN10, decide_true, decide_false]
    rw [ixTd at0]
    try simp only [onO_nx, onO_rt, onO_bad, onO_out, onO_ite, on_ite, onO_seq, onO_skip, onO_if, onO_ret, onO_set, onO_ex, onO_for, on_bindI, on_okI, on_badI, fCall, fCons, fNil, fPv, fC, fOp, fTest, fNotT, fAndT, fOrT, fAndV, fOrV, fNotV, fIf, fTup, fLst, fLstM, fSl, fPart, fNoP, fMethL, fNeg, fPut, fPar, fAsg, fYes, List.getElem?_cons_zero, List.getElem?_cons_succ, List.set_cons_zero, List.set_cons_succ, List.map_cons, List.map_nil, List.nil_append, List.cons_append, List.length_cons, List.length_nil, List.reduceReplicate, Nat.reduceSub, Nat.reduceAdd, Nat.zero_add, Bool.not_true, Bool.not_false, if_true, if_false, reduceIte, Bool.false_eq_true, reduceCtorEq, datas, Option.map_some, Option.bind_some, e_add, e_sub, e_lt, e_le, e_gt, e_ge, e_eqI, e_eqB, e_neI, e_neT, e_lenL, e_lenT, ixN43, ixN42, ixN41, ixN10, decide_true, decide_false]
    rw [e_eqD (by rw [sh_tree, str_shaped hk]; rfl), eqv_str]
    try simp only [onO_nx, onO_rt, onO_bad, onO_out, onO_ite, on_ite, onO_seq, onO_skip, onO_if, onO_ret, onO_set, onO_ex, onO_for, on_bindI, on_okI, on_badI, fCall, fCons, fNil, fPv, fC, fOp, fTest, fNotT, fAndT, fOrT, fAndV, fOrV, fNotV, fIf, fTup, fLst, fLstM, fSl, fPart, fNoP, fMethL, fNeg, fPut, fPar, fAsg, fYes, List.getElem?_cons_zero, List.getElem?_cons_succ, List.set_cons_zero, List.set_cons_succ, List.map_cons, List.map_nil, List.nil_append, List.cons_append, List.length_cons, List.length_nil, List.reduceReplicate, Nat.reduceSub, Nat.reduceAdd, Nat.zero_add, Bool.not_true, Bool.not_false, if_true, if_false, reduceIte, Bool.false_eq_true, reduceCtorEq, datas, Option.map_some, Option.bind_some, e_add, e_sub, e_lt, e_le, e_gt, e_ge, e_eqI, e_eqB, e_neI, e_neT, e_lenL, e_lenT, ixN43, ixN42, ixN41, ixN10, decide_true, decide_false]
    exact fin_same fl ⟨by simp [isA], rfl⟩

/-! ### what stands within -/
def enL (i : Nat) : List PyData → List (Key × PyData)
  | [] => []
  | x :: xs => (Sum.inl (i : Int), x) :: enL (i + 1) xs
def fieldD : PyData → Option (Key × PyData)
  | .tuple [.str x, e] => some (Sum.inr x, e)
  | _ => none
def thD : PyData → List (Key × PyData)
  | .tuple [.str x, .tuple ds] => if x = "tree" then ds.filterMap fieldD else if x = "row" then enL 0 ds else []
  | _ => []
def kvW (ths : List (Key × PyData)) : List (Key × Wv) := ths.map fun q => (q.1, Wv.d q.2)
theorem thD_tree (es : List (Str × PyData)) : thD (treeD es) = es.map fun e => (Sum.inr e.1, e.2) := by
  simp only [treeD, thD, if_true]
  induction es with
  | nil => rfl
  | cons e es ih =>
    rw [List.map_cons, List.filterMap_cons, List.map_cons]
    simp only [pairD, fieldD]
    rw [ih]
theorem thD_row (ds : List PyData) : thD (rowD ds) = enL 0 ds := by
  simp only [rowD, thD]
  rw [if_neg (by decide)]
  simp
theorem thD_plain {d : PyData} (h : isT d = false) : thD d = [] := by cases d <;> simp_all [thD, isT]
theorem enL_keys : ∀ (xs : List PyData) (i : Nat), ∀ p ∈ enL i xs, ∃ j : Nat, i ≤ j ∧ j < i + xs.length ∧ p.1 = Sum.inl (j : Int) ∧ xs[j - i]? = some p.2
  | [], i, p, h => by cases h
  | x :: xs, i, p, h => by
    rcases List.mem_cons.mp h with z | z
    · rw [z]; exact ⟨i, Nat.le_refl _, by simp, rfl, by simp⟩
    · obtain ⟨j, h1, h2, h3, h4⟩ := enL_keys xs (i + 1) p z
      refine ⟨j, by omega, by rw [List.length_cons]; omega, h3, ?_⟩
      rw [show j - i = (j - (i + 1)) + 1 by omega, List.getElem?_cons_succ]
      exact h4
theorem enL_nodup : ∀ (xs : List PyData) (i : Nat), ((enL i xs).map (·.1)).Nodup
  | [], _ => .nil
  | x :: xs, i => by
    rw [enL, List.map_cons, List.nodup_cons]
    refine ⟨fun z => ?_, enL_nodup xs (i + 1)⟩
    obtain ⟨p, hp, e⟩ := List.mem_map.mp z
    obtain ⟨j, h1, _, h3, _⟩ := enL_keys xs (i + 1) p hp
    rw [h3] at e
    have : (j : Int) = i := Sum.inl.inj e
    omega
theorem enL_len : ∀ (xs : List PyData) (i : Nat), (enL i xs).length = xs.length
  | [], _ => rfl
  | x :: xs, i => by rw [enL, List.length_cons, List.length_cons, enL_len]
theorem put_new {kvs : List (Key × Wv)} {k : Key} {v : Wv} (h : k ∉ kvs.map (·.1)) : putW kvs k v = kvs ++ [(k, v)] := by
  unfold putW
  rw [if_neg]
  intro z
  obtain ⟨p, hp, e⟩ := List.any_eq_true.mp z
  exact h (List.mem_map.mpr ⟨p, hp, of_decide_eq_true e⟩)
theorem merge_app : ∀ (more kvs : List (Key × Wv)), ((kvs ++ more).map (·.1)).Nodup → mergeW kvs more = kvs ++ more
  | [], kvs, _ => by simp [mergeW]
  | q :: more, kvs, h => by
    have hq : q.1 ∉ kvs.map (·.1) := by
      rw [List.map_append, List.map_cons] at h
      intro z
      exact (List.nodup_append.mp h).2.2 _ z _ List.mem_cons_self rfl
    show mergeW (putW kvs q.1 q.2) more = _
    rw [put_new hq]
    have e : kvs ++ q :: more = (kvs ++ [(q.1, q.2)]) ++ more := by simp
    rw [merge_app more _ (by rw [← e]; exact h), e]
theorem merge_id {kvs : List (Key × Wv)} (h : (kvs.map (·.1)).Nodup) : mergeW [] kvs = kvs := by
  rw [merge_app kvs [] (by simpa using h)]
  rfl
theorem pairs_kv : ∀ es : List (Str × PyData), pairsK (es.map pairD) = some (kvW (es.map fun e => (Sum.inr e.1, e.2)))
  | [] => rfl
  | e :: es => by
    rw [List.map_cons, pairsK, pairs_kv es]
    rfl
theorem en_kv2 : ∀ (ds : List PyData) (i : Nat), enW i ds = kvW (enL i ds)
  | [], _ => rfl
  | d :: ds, i => by rw [enW, en_kv2 ds]; rfl
theorem kv_keys (ths : List (Key × PyData)) : (kvW ths).map (·.1) = ths.map (·.1) := by
  unfold kvW
  rw [List.map_map]
  rfl
theorem kv_fl (ths : List (Key × PyData)) : Ob.fl (.dct (kvW ths)) := fun q hq => by
  obtain ⟨p, _, rfl⟩ := List.mem_map.mp hq
  exact ⟨_, rfl⟩
theorem thD_nodup {n : Nat} {d : PyData} (h : VG n d) : ((thD d).map (·.1)).Nodup := by
  cases h with
  | plain h => rw [thD_plain (px_ok _ h).2.1]; exact .nil
  | row _ _ => rw [thD_row]; exact enL_nodup _ _
  | tree _ _ h3 _ =>
    rw [thD_tree, List.map_map]
    show (List.map ((fun x : Str => (Sum.inr x : Key)) ∘ fun e : Str × PyData => e.1) _).Nodup
    rw [← List.map_map]
    exact List.Pairwise.map _ (fun a b z e => z (Sum.inr.inj e)) h3
theorem things_on {n : Nat} {d : PyData} {M : Sto} (h : VG n d) (fl : Flat M) : F_thingsof [.d d] M = .ok (.r M.length) (M ++ [.dct (kvW (thD d))]) := by
  refine get_ok ?_
  unfold F_thingsof
  refine fn_on rfl ?_
  unfold B_thingsof
  have nd := thD_nodup h
  rw [← kv_keys] at nd
  try simp only [onO_nx, onO_rt, onO_bad, onO_out, onO_ite, on_ite, onO_seq, onO_skip, onO_if, onO_ret, onO_set, onO_ex, onO_for, on_bindI, on_okI, on_badI, fCall, fCons, fNil, fPv, fC, fOp, fTest, fNotT, fAndT, fOrT, fAndV, fOrV, fNotV, fIf, fTup, fLst, fLstM, fSl, fPart, fNoP, fMethL, fNeg, fPut, fPar, fAsg, fYes, List.getElem?_cons_zero, List.getElem?_cons_succ, List.set_cons_zero, List.set_cons_succ, List.map_cons, List.map_nil, List.nil_append, List.cons_append, List.length_cons, List.length_nil, List.reduceReplicate, Nat.reduceSub, Nat.reduceAdd, Nat.zero_add, Bool.not_true, Bool.not_false, if_true, if_false, reduceIte, Bool.false_eq_true, reduceCtorEq, datas, Option.map_some, Option.bind_some, e_add, e_sub, e_lt, e_le, e_gt, e_ge, e_eqI, e_eqB, e_neI, e_neT, e_lenL, e_lenT, ixN43, ixN42, ixN41, ixN10, decide_true, decide_false, istree_eq h fl, isrow_eq h fl]
  cases h with
  | plain h =>
    rw [isTr_plain (px_ok _ h).2.1, isRw_plain (px_ok _ h).2.1, thD_plain (px_ok _ h).2.1]
    try simp only [onO_nx, onO_rt, onO_bad, onO_out, onO_ite, on_ite, onO_seq, onO_skip, onO_if, onO_ret, onO_set, onO_ex, onO_for, on_bindI, on_okI, on_badI, fCall, fCons, fNil, fPv, fC, fOp, fTest, fNotT, fAndT, fOrT, fAndV, fOrV, fNotV, fIf, fTup, fLst, fLstM, fSl, fPart, fNoP, fMethL, fNeg, fPut, fPar, fAsg, fYes, List.getElem?_cons_zero, List.getElem?_cons_succ, List.set_cons_zero, List.set_cons_succ, List.map_cons, List.map_nil, List.nil_append, List.cons_append, List.length_cons, List.length_nil, List.reduceReplicate, Nat.reduceSub, Nat.reduceAdd, Nat.zero_add, Bool.not_true, Bool.not_false, if_true, if_false, reduceIte, Bool.false_eq_true, reduceCtorEq, datas, Option.map_some, Option.bind_some, e_add, e_sub, e_lt, e_le, e_gt, e_ge, e_eqI, e_eqB, e_neI, e_neT, e_lenL, e_lenT, ixN43, ixN42, ixN41, ixN10, decide_true, decide_false, fDict0]
    exact ⟨trivial, rfl⟩
  | row _ _ =>
    rw [isTr_row, isRw_row]
    rw [thD_row] at nd ⊢
    unfold fDictEnum
    simp only [rowD]
    try simp only [onO_nx, onO_rt, onO_bad, onO_out, onO_ite, on_ite, onO_seq, onO_skip, onO_if, onO_ret, onO_set, onO_ex, onO_for, on_bindI, on_okI, on_badI, fCall, fCons, fNil, fPv, fC, fOp, fTest, fNotT, fAndT, fOrT, fAndV, fOrV, fNotV, fIf, fTup, fLst, fLstM, fSl, fPart, fNoP, fMethL, fNeg, fPut, fPar, fAsg, fYes, List.getElem?_cons_zero, List.getElem?_cons_succ, List.set_cons_zero, List.set_cons_succ, List.map_cons, List.map_nil, List.nil_append, List.cons_append, List.length_cons, List.length_nil, List.reduceReplicate, Nat.reduceSub, Nat.reduceAdd, Nat.zero_add, Bool.not_true, Bool.not_false, if_true, if_false, reduceIte, Bool.false_eq_true, reduceCtorEq, datas, Option.map_some, Option.bind_some, e_add, e_sub, e_lt, e_le, e_gt, e_ge, e_eqI, e_eqB, e_neI, e_neT, e_lenL, e_lenT, ixN43, ixN42, ixN41, ixN10, decide_true, decide_false]
    rw [ixTd at1]
    try simp only [onO_nx, onO_rt, onO_bad, onO_out, onO_ite, on_ite, onO_seq, onO_skip, onO_if, onO_ret, onO_set, onO_ex, onO_for, on_bindI, on_okI, on_badI, fCall, fCons, fNil, fPv, fC, fOp, fTest, fNotT, fAndT, fOrT, fAndV, fOrV, fNotV, fIf, fTup, fLst, fLstM, fSl, fPart, fNoP, fMethL, fNeg, fPut, fPar, fAsg, fYes, List.getElem?_cons_zero, List.getElem?_cons_succ, List.set_cons_zero, List.set_cons_succ, List.map_cons, List.map_nil, List.nil_append, List.cons_append, List.length_cons, List.length_nil, List.reduceReplicate, Nat.reduceSub, Nat.reduceAdd, Nat.zero_add, Bool.not_true, Bool.not_false, if_true, if_false, reduceIte, Bool.false_eq_true, reduceCtorEq, datas, Option.map_some, Option.bind_some, e_add, e_sub, e_lt, e_le, e_gt, e_ge, e_eqI, e_eqB, e_neI, e_neT, e_lenL, e_lenT, ixN43, ixN42, ixN41, ixN10, decide_true, decide_false]
    rw [en_kv2, merge_id nd]
    exact ⟨trivial, rfl⟩
  | tree _ _ _ _ =>
    rw [isTr_tree]
    rw [thD_tree] at nd ⊢
    simp only [treeD]
    try simp only [onO_nx, onO_rt, onO_bad, onO_out, onO_ite, on_ite, onO_seq, onO_skip, onO_if, onO_ret, onO_set, onO_ex, onO_for, on_bindI, on_okI, on_badI, fCall, fCons, fNil, fPv, fC, fOp, fTest, fNotT, fAndT, fOrT, fAndV, fOrV, fNotV, fIf, fTup, fLst, fLstM, fSl, fPart, fNoP, fMethL, fNeg, fPut, fPar, fAsg, fYes, List.getElem?_cons_zero, List.getElem?_cons_succ, List.set_cons_zero, List.set_cons_succ, List.map_cons, List.map_nil, List.nil_append, List.cons_append, List.length_cons, List.length_nil, List.reduceReplicate, Nat.reduceSub, Nat.reduceAdd, Nat.zero_add, Bool.not_true, Bool.not_false, if_true, if_false, reduceIte, Bool.false_eq_true, reduceCtorEq, datas, Option.map_some, Option.bind_some, e_add, e_sub, e_lt, e_le, e_gt, e_ge, e_eqI, e_eqB, e_neI, e_neT, e_lenL, e_lenT, ixN43, ixN42, ixN41, ixN10, decide_true, decide_false]
    rw [ixTd at1]
    try simp only [onO_nx, onO_rt, onO_bad, onO_out, onO_ite, on_ite, onO_seq, onO_skip, onO_if, onO_ret, onO_set, onO_ex, onO_for, on_bindI, on_okI, on_badI, fCall, fCons, fNil, fPv, fC, fOp, fTest, fNotT, fAndT, fOrT, fAndV, fOrV, fNotV, fIf, fTup, fLst, fLstM, fSl, fPart, fNoP, fMethL, fNeg, fPut, fPar, fAsg, fYes, List.getElem?_cons_zero, List.getElem?_cons_succ, List.set_cons_zero, List.set_cons_succ, List.map_cons, List.map_nil, List.nil_append, List.cons_append, List.length_cons, List.length_nil, List.reduceReplicate, Nat.reduceSub, Nat.reduceAdd, Nat.zero_add, Bool.not_true, Bool.not_false, if_true, if_false, reduceIte, Bool.false_eq_true, reduceCtorEq, datas, Option.map_some, Option.bind_some, e_add, e_sub, e_lt, e_le, e_gt, e_ge, e_eqI, e_eqB, e_neI, e_neT, e_lenL, e_lenT, ixN43, ixN42, ixN41, ixN10, decide_true, decide_false, oDictT, pairs_kv]
    rw [merge_id nd]
    exact ⟨trivial, rfl⟩
end Fu

set_option Elab.async false
set_option linter.all false
set_option maxRecDepth 100000
set_option maxHeartbeats 1000000
/-! has_like, comes_by. -/
namespace Fu
open PySem PySem.Spec PyProof.Rows L2 Dat LamX PySem.W
def getD (ths : List (Key × PyData)) (k : Key) : Option PyData := (ths.find? fun p => decide (p.1 = k)).map (·.2)
theorem getW_kv (ths : List (Key × PyData)) (k : Key) : getW (kvW ths) k = (getD ths k).map Wv.d := by
  unfold getW getD kvW
  induction ths with
  | nil => rfl
  | cons q ths ih =>
    rw [List.map_cons, List.find?_cons, List.find?_cons]
    by_cases h : q.1 = k
    · simp [h]
    · simp only [h, decide_false]
      exact ih
theorem getD_mem {ths : List (Key × PyData)} {k : Key} {e : PyData} (h : getD ths k = some e) : (k, e) ∈ ths := by
  unfold getD at h
  cases q : ths.find? fun p => decide (p.1 = k) with
  | none => rw [q] at h; cases h
  | some p =>
    rw [q] at h
    cases h
    have h1 := List.find?_some q
    have h2 := List.mem_of_find?_eq_some q
    have h1 : p.1 = k := of_decide_eq_true h1
    rw [← h1]
    exact h2
theorem thD_vg {n : Nat} {d : PyData} (h : VG n d) : ∀ q ∈ thD d, VG n q.2 ∧ ∃ m, n = m + 1 ∧ VG m q.2 := by
  cases h with
  | plain h => rw [thD_plain (px_ok _ h).2.1]; intro q hq; cases hq
  | row _ hv =>
    rw [thD_row]
    intro q hq
    obtain ⟨j, _, _, _, e⟩ := enL_keys _ _ q hq
    have := hv _ (List.mem_of_getElem? e)
    exact ⟨VG.rec (motive := fun n d _ => VG (n + 1) d) (fun h => .plain h) (fun a b ih => .row a ih) (fun a b c d ih => .tree a b c ih) this, _, rfl, this⟩
  | tree _ _ _ hv =>
    rw [thD_tree]
    intro q hq
    obtain ⟨e, he, rfl⟩ := List.mem_map.mp hq
    have := hv e he
    exact ⟨VG.rec (motive := fun n d _ => VG (n + 1) d) (fun h => .plain h) (fun a b ih => .row a ih) (fun a b c d ih => .tree a b c ih) this, _, rfl, this⟩
theorem thD_len {n : Nat} {d : PyData} (h : VG n d) : (thD d).length ≤ 30 := by
  cases h with
  | plain h => rw [thD_plain (px_ok _ h).2.1]; simp
  | row hl _ => rw [thD_row, enL_len]; exact hl
  | tree hl _ _ _ => rw [thD_tree, List.length_map]; exact hl
/-- like, the other a plain -/
def lkP (e p : PyData) : Bool := (isB e == isB p) && PyData.eqv e p
theorem islike_eq {e p : PyData} {M : Sto} (fl : Flat M) (he : SeqAt.shaped e = true) (hp : SeqAt.shaped p = true) (tp : isT p = false) (m : Nat) : F_islike (m + 1) [.d e, .d p] M = .ok (.d (.bool (lkP e p))) M := by
  refine get_ok ?_
  simp only [F_islike]
  refine drop_on (fn_on rfl ?_)
  unfold B_islike
  try simp only [onO_nx, onO_rt, onO_bad, onO_out, onO_ite, on_ite, onO_seq, onO_skip, onO_if, onO_ret, onO_set, onO_ex, onO_for, on_bindI, on_okI, on_badI, fCall, fCons, fNil, fPv, fC, fOp, fTest, fNotT, fAndT, fOrT, fAndV, fOrV, fNotV, fIf, fTup, fLst, fLstM, fSl, fPart, fNoP, fMethL, fNeg, fPut, fPar, fAsg, fYes, List.getElem?_cons_zero, List.getElem?_cons_succ, List.set_cons_zero, List.set_cons_succ, List.map_cons, List.map_nil, List.nil_append, List.cons_append, List.length_cons, List.length_nil, List.reduceReplicate, Nat.reduceSub, Nat.reduceAdd, Nat.zero_add, Bool.not_true, Bool.not_false, if_true, if_false, reduceIte, Bool.false_eq_true, reduceCtorEq, datas, Option.map_some, Option.bind_some, e_add, e_sub, e_lt, e_le, e_gt, e_ge, e_eqI, e_eqB, e_neI, e_neT, e_lenL, e_lenT, ixN43, ixN42, ixN41, ixN10, decide_true, decide_false, isi_tup, isi_bool, tp, ite_self]
  unfold lkP
  cases (isB e == isB p)
  · try simp only [onO_nx, onO_rt, onO_bad, onO_out, onO_ite, on_ite, onO_seq, onO_skip, onO_if, onO_ret, onO_set, onO_ex, onO_for, on_bindI, on_okI, on_badI, fCall, fCons, fNil, fPv, fC, fOp, fTest, fNotT, fAndT, fOrT, fAndV, fOrV, fNotV, fIf, fTup, fLst, fLstM, fSl, fPart, fNoP, fMethL, fNeg, fPut, fPar, fAsg, fYes, List.getElem?_cons_zero, List.getElem?_cons_succ, List.set_cons_zero, List.set_cons_succ, List.map_cons, List.map_nil, List.nil_append, List.cons_append, List.length_cons, List.length_nil, List.reduceReplicate, Nat.reduceSub, Nat.reduceAdd, Nat.zero_add, Bool.not_true, Bool.not_false, if_true, if_false, reduceIte, Bool.false_eq_true, reduceCtorEq, datas, Option.map_some, Option.bind_some, e_add, e_sub, e_lt, e_le, e_gt, e_ge, e_eqI, e_eqB, e_neI, e_neT, e_lenL, e_lenT, ixN43, ixN42, ixN41, ixN10, decide_true, decide_false]
    exact fin_same fl ⟨rfl, rfl⟩
  · try simp only [onO_nx, onO_rt, onO_bad, onO_out, onO_ite, on_ite, onO_seq, onO_skip, onO_if, onO_ret, onO_set, onO_ex, onO_for, on_bindI, on_okI, on_badI, fCall, fCons, fNil, fPv, fC, fOp, fTest, fNotT, fAndT, fOrT, fAndV, fOrV, fNotV, fIf, fTup, fLst, fLstM, fSl, fPart, fNoP, fMethL, fNeg, fPut, fPar, fAsg, fYes, List.getElem?_cons_zero, List.getElem?_cons_succ, List.set_cons_zero, List.set_cons_succ, List.map_cons, List.map_nil, List.nil_append, List.cons_append, List.length_cons, List.length_nil, List.reduceReplicate, Nat.reduceSub, Nat.reduceAdd, Nat.zero_add, Bool.not_true, Bool.not_false, if_true, if_false, reduceIte, Bool.false_eq_true, reduceCtorEq, datas, Option.map_some, Option.bind_some, e_add, e_sub, e_lt, e_le, e_gt, e_ge, e_eqI, e_eqB, e_neI, e_neT, e_lenL, e_lenT, ixN43, ixN42, ixN41, ixN10, decide_true, decide_false]
    rw [e_eqD (by rw [he, hp]; rfl)]
    try simp only [onO_nx, onO_rt, onO_bad, onO_out, onO_ite, on_ite, onO_seq, onO_skip, onO_if, onO_ret, onO_set, onO_ex, onO_for, on_bindI, on_okI, on_badI, fCall, fCons, fNil, fPv, fC, fOp, fTest, fNotT, fAndT, fOrT, fAndV, fOrV, fNotV, fIf, fTup, fLst, fLstM, fSl, fPart, fNoP, fMethL, fNeg, fPut, fPar, fAsg, fYes, List.getElem?_cons_zero, List.getElem?_cons_succ, List.set_cons_zero, List.set_cons_succ, List.map_cons, List.map_nil, List.nil_append, List.cons_append, List.length_cons, List.length_nil, List.reduceReplicate, Nat.reduceSub, Nat.reduceAdd, Nat.zero_add, Bool.not_true, Bool.not_false, if_true, if_false, reduceIte, Bool.false_eq_true, reduceCtorEq, datas, Option.map_some, Option.bind_some, e_add, e_sub, e_lt, e_le, e_gt, e_ge, e_eqI, e_eqB, e_neI, e_neT, e_lenL, e_lenT, ixN43, ixN42, ixN41, ixN10, decide_true, decide_false]
    exact fin_same fl ⟨rfl, rfl⟩
def hasLk (d : PyData) (x : Str) (p : PyData) : Bool := match getD (thD d) (Sum.inr x) with
  | some e => lkP e p
  | none => false
theorem haslike_eq {n : Nat} {d p : PyData} {x : Str} {M : Sto} (h : VG n d) (hn : n ≤ 20) (fl : Flat M) (hp : SeqAt.shaped p = true) (tp : isT p = false) : F_haslike [.d d, .d (.str x), .d p] M = .ok (.d (.bool (hasLk d x p))) M := by
  refine get_ok ?_
  unfold F_haslike
  refine drop_on (fn_on rfl ?_)
  unfold B_haslike
  try simp only [onO_nx, onO_rt, onO_bad, onO_out, onO_ite, on_ite, onO_seq, onO_skip, onO_if, onO_ret, onO_set, onO_ex, onO_for, on_bindI, on_okI, on_badI, fCall, fCons, fNil, fPv, fC, fOp, fTest, fNotT, fAndT, fOrT, fAndV, fOrV, fNotV, fIf, fTup, fLst, fLstM, fSl, fPart, fNoP, fMethL, fNeg, fPut, fPar, fAsg, fYes, List.getElem?_cons_zero, List.getElem?_cons_succ, List.set_cons_zero, List.set_cons_succ, List.map_cons, List.map_nil, List.nil_append, List.cons_append, List.length_cons, List.length_nil, List.reduceReplicate, Nat.reduceSub, Nat.reduceAdd, Nat.zero_add, Bool.not_true, Bool.not_false, if_true, if_false, reduceIte, Bool.false_eq_true, reduceCtorEq, datas, Option.map_some, Option.bind_some, e_add, e_sub, e_lt, e_le, e_gt, e_ge, e_eqI, e_eqB, e_neI, e_neT, e_lenL, e_lenT, ixN43, ixN42, ixN41, ixN10, decide_true, decide_false, things_on h fl]
  have fl1 : Flat (M ++ [.dct (kvW (thD d))]) := fl.app (kv_fl _)
  simp only [oDIn, dctW, at_new, keyD, getW_kv]
  unfold hasLk
  cases e : getD (thD d) (Sum.inr x) with
  | none =>
    try simp only [onO_nx, onO_rt, onO_bad, onO_out, onO_ite, on_ite, onO_seq, onO_skip, onO_if, onO_ret, onO_set, onO_ex, onO_for, on_bindI, on_okI, on_badI, fCall, fCons, fNil, fPv, fC, fOp, fTest, fNotT, fAndT, fOrT, fAndV, fOrV, fNotV, fIf, fTup, fLst, fLstM, fSl, fPart, fNoP, fMethL, fNeg, fPut, fPar, fAsg, fYes, List.getElem?_cons_zero, List.getElem?_cons_succ, List.set_cons_zero, List.set_cons_succ, List.map_cons, List.map_nil, List.nil_append, List.cons_append, List.length_cons, List.length_nil, List.reduceReplicate, Nat.reduceSub, Nat.reduceAdd, Nat.zero_add, Bool.not_true, Bool.not_false, if_true, if_false, reduceIte, Bool.false_eq_true, reduceCtorEq, datas, Option.map_some, Option.bind_some, e_add, e_sub, e_lt, e_le, e_gt, e_ge, e_eqI, e_eqB, e_neI, e_neT, e_lenL, e_lenT, ixN43, ixN42, ixN41, ixN10, decide_true, decide_false, Option.map_none, Option.isSome_none]
    exact fin_more rfl fl1 ⟨rfl, rfl⟩
  | some v =>
    try simp only [onO_nx, onO_rt, onO_bad, onO_out, onO_ite, on_ite, onO_seq, onO_skip, onO_if, onO_ret, onO_set, onO_ex, onO_for, on_bindI, on_okI, on_badI, fCall, fCons, fNil, fPv, fC, fOp, fTest, fNotT, fAndT, fOrT, fAndV, fOrV, fNotV, fIf, fTup, fLst, fLstM, fSl, fPart, fNoP, fMethL, fNeg, fPut, fPar, fAsg, fYes, List.getElem?_cons_zero, List.getElem?_cons_succ, List.set_cons_zero, List.set_cons_succ, List.map_cons, List.map_nil, List.nil_append, List.cons_append, List.length_cons, List.length_nil, List.reduceReplicate, Nat.reduceSub, Nat.reduceAdd, Nat.zero_add, Bool.not_true, Bool.not_false, if_true, if_false, reduceIte, Bool.false_eq_true, reduceCtorEq, datas, Option.map_some, Option.bind_some, e_add, e_sub, e_lt, e_le, e_gt, e_ge, e_eqI, e_eqB, e_neI, e_neT, e_lenL, e_lenT, ixN43, ixN42, ixN41, ixN10, decide_true, decide_false, Option.map_some, Option.isSome_some]
    simp only [oDGet, dctW, at_new, keyD, getW_kv, Option.bind_some, e, Option.map_some]
    try simp only [onO_nx, onO_rt, onO_bad, onO_out, onO_ite, on_ite, onO_seq, onO_skip, onO_if, onO_ret, onO_set, onO_ex, onO_for, on_bindI, on_okI, on_badI, fCall, fCons, fNil, fPv, fC, fOp, fTest, fNotT, fAndT, fOrT, fAndV, fOrV, fNotV, fIf, fTup, fLst, fLstM, fSl, fPart, fNoP, fMethL, fNeg, fPut, fPar, fAsg, fYes, List.getElem?_cons_zero, List.getElem?_cons_succ, List.set_cons_zero, List.set_cons_succ, List.map_cons, List.map_nil, List.nil_append, List.cons_append, List.length_cons, List.length_nil, List.reduceReplicate, Nat.reduceSub, Nat.reduceAdd, Nat.zero_add, Bool.not_true, Bool.not_false, if_true, if_false, reduceIte, Bool.false_eq_true, reduceCtorEq, datas, Option.map_some, Option.bind_some, e_add, e_sub, e_lt, e_le, e_gt, e_ge, e_eqI, e_eqB, e_neI, e_neT, e_lenL, e_lenT, ixN43, ixN42, ixN41, ixN10, decide_true, decide_false]
    have hv := (thD_vg h _ (getD_mem e)).1
    rw [islike_eq fl1 (vg_shaped hv hn) hp tp 14]
    try simp only [onO_nx, onO_rt, onO_bad, onO_out, onO_ite, on_ite, onO_seq, onO_skip, onO_if, onO_ret, onO_set, onO_ex, onO_for, on_bindI, on_okI, on_badI, fCall, fCons, fNil, fPv, fC, fOp, fTest, fNotT, fAndT, fOrT, fAndV, fOrV, fNotV, fIf, fTup, fLst, fLstM, fSl, fPart, fNoP, fMethL, fNeg, fPut, fPar, fAsg, fYes, List.getElem?_cons_zero, List.getElem?_cons_succ, List.set_cons_zero, List.set_cons_succ, List.map_cons, List.map_nil, List.nil_append, List.cons_append, List.length_cons, List.length_nil, List.reduceReplicate, Nat.reduceSub, Nat.reduceAdd, Nat.zero_add, Bool.not_true, Bool.not_false, if_true, if_false, reduceIte, Bool.false_eq_true, reduceCtorEq, datas, Option.map_some, Option.bind_some, e_add, e_sub, e_lt, e_le, e_gt, e_ge, e_eqI, e_eqB, e_neI, e_neT, e_lenL, e_lenT, ixN43, ixN42, ixN41, ixN10, decide_true, decide_false]
    exact fin_more rfl fl1 ⟨rfl, rfl⟩
def prD (q : Key × PyData) : PyData := .tuple [dK q.1, q.2]
def comesD (d : PyData) : Sp' → List (Key × PyData)
  | .fld w => match getD (thD d) (Sum.inr w) with
    | some e => [(Sum.inr w, e)]
    | none => []
  | .num k => match getD (thD d) (Sum.inl (k : Int)) with
    | some e => [(Sum.inl (k : Int), e)]
    | none => []
  | .each => if isRw d = true then thD d else []
  | .whr w p => if isRw d = true then (thD d).filter fun q => hasLk q.2 w p else []
/-- steps that are gone along -/
def SpG : Sp' → Prop
  | .fld w => w ∈ WQ
  | .num k => k ≤ 10 ^ 30
  | .each => True
  | .whr w p => w ∈ WQ ∧ p ∈ PL
theorem pl_ok : ∀ d ∈ PL, okD d = true ∧ isT d = false ∧ szD d = 200 ∧ d.depth = 0 := fun d h => px_ok d (List.mem_append_left _ h)
theorem items_kv : ∀ ths : List (Key × PyData), itemsD (kvW ths) = some (ths.map prD)
  | [] => rfl
  | q :: ths => by
    show itemsD ((q.1, Wv.d q.2) :: kvW ths) = _
    rw [itemsD, items_kv ths]
    rfl
theorem sh_field : SeqAt.shaped (.str "field") = true := by decide +kernel
theorem sh_at : SeqAt.shaped (.str "at") = true := by decide +kernel
theorem sh_each : SeqAt.shaped (.str "each") = true := by decide +kernel
theorem sh_where : SeqAt.shaped (.str "where") = true := by decide +kernel
theorem at2 {a b c : PyData} {as : List PyData} : atI (a :: b :: c :: as) 2 = some c := by
  unfold atI ixN
  rw [if_pos (by decide), if_pos (by simp only [List.length_cons]; omega)]
  rfl
theorem filter_snoc {α : Type} {xs : List α} {i : Nat} {x : α} {p : α → Bool} (h : xs[i]? = some x) : (xs.take (i + 1)).filter p = (xs.take i).filter p ++ (if p x = true then [x] else []) := by
  rw [take_succ_at h, List.filter_append]
  congr 1
  by_cases z : p x = true
  · simp [z]
  · simp [z]
theorem comesby_eq {n : Nat} {d : PyData} {s : Sp'} {M : Sto} (h : VG n d) (hn : n ≤ 20) (fl : Flat M) (hs : SpG s) : F_comesby [.d d, .d (spD s)] M = .ok (.d (.list ((comesD d s).map prD))) M := by
  refine get_ok ?_
  unfold F_comesby
  refine drop_on (fn_on rfl ?_)
  unfold B_comesby
  have fl1 : Flat (M ++ [.dct (kvW (thD d))]) := fl.app (kv_fl _)
  have tl := thD_len h
  cases s with
  | fld w =>
    simp only [spD]
    try simp only [onO_nx, onO_rt, onO_bad, onO_out, onO_ite, on_ite, onO_seq, onO_skip, onO_if, onO_ret, onO_set, onO_ex, onO_for, on_bindI, on_okI, on_badI, fCall, fCons, fNil, fPv, fC, fOp, fTest, fNotT, fAndT, fOrT, fAndV, fOrV, fNotV, fIf, fTup, fLst, fLstM, fSl, fPart, fNoP, fMethL, fNeg, fPut, fPar, fAsg, fYes, List.getElem?_cons_zero, List.getElem?_cons_succ, List.set_cons_zero, List.set_cons_succ, List.map_cons, List.map_nil, List.nil_append, List.cons_append, List.length_cons, List.length_nil, List.reduceReplicate, Nat.reduceSub, Nat.reduceAdd, Nat.zero_add, Bool.not_true, Bool.not_false, if_true, if_false, reduceIte, Bool.false_eq_true, reduceCtorEq, datas, Option.map_some, Option.bind_some, e_add, e_sub, e_lt, e_le, e_gt, e_ge, e_eqI, e_eqB, e_neI, e_neT, e_lenL, e_lenT, ixN43, ixN42, ixN41, ixN10, decide_true, decide_false]
    rw [ixTd at0]
    try simp only [onO_nx, onO_rt, onO_bad, onO_out, onO_ite, on_ite, onO_seq, onO_skip, onO_if, onO_ret, onO_set, onO_ex, onO_for, on_bindI, on_okI, on_badI, fCall, fCons, fNil, fPv, fC, fOp, fTest, fNotT, fAndT, fOrT, fAndV, fOrV, fNotV, fIf, fTup, fLst, fLstM, fSl, fPart, fNoP, fMethL, fNeg, fPut, fPar, fAsg, fYes, List.getElem?_cons_zero, List.getElem?_cons_succ, List.set_cons_zero, List.set_cons_succ, List.map_cons, List.map_nil, List.nil_append, List.cons_append, List.length_cons, List.length_nil, List.reduceReplicate, Nat.reduceSub, Nat.reduceAdd, Nat.zero_add, Bool.not_true, Bool.not_false, if_true, if_false, reduceIte, Bool.false_eq_true, reduceCtorEq, datas, Option.map_some, Option.bind_some, e_add, e_sub, e_lt, e_le, e_gt, e_ge, e_eqI, e_eqB, e_neI, e_neT, e_lenL, e_lenT, ixN43, ixN42, ixN41, ixN10, decide_true, decide_false, things_on h fl]
    rw [e_eqD (by rw [sh_field]; rfl), eqv_str]
    have i1 : oIxT (.d (.tuple [.str "field", .str w])) (.d (.int 1)) (M ++ [.dct (kvW (thD d))]) = .ok (.d (.str w)) (M ++ [.dct (kvW (thD d))]) := ixTd at1
    try simp only [onO_nx, onO_rt, onO_bad, onO_out, onO_ite, on_ite, onO_seq, onO_skip, onO_if, onO_ret, onO_set, onO_ex, onO_for, on_bindI, on_okI, on_badI, fCall, fCons, fNil, fPv, fC, fOp, fTest, fNotT, fAndT, fOrT, fAndV, fOrV, fNotV, fIf, fTup, fLst, fLstM, fSl, fPart, fNoP, fMethL, fNeg, fPut, fPar, fAsg, fYes, List.getElem?_cons_zero, List.getElem?_cons_succ, List.set_cons_zero, List.set_cons_succ, List.map_cons, List.map_nil, List.nil_append, List.cons_append, List.length_cons, List.length_nil, List.reduceReplicate, Nat.reduceSub, Nat.reduceAdd, Nat.zero_add, Bool.not_true, Bool.not_false, if_true, if_false, reduceIte, Bool.false_eq_true, reduceCtorEq, datas, Option.map_some, Option.bind_some, e_add, e_sub, e_lt, e_le, e_gt, e_ge, e_eqI, e_eqB, e_neI, e_neT, e_lenL, e_lenT, ixN43, ixN42, ixN41, ixN10, decide_true, decide_false, i1]
    simp only [oDIn, dctW, at_new, keyD, getW_kv, comesD]
    cases e : getD (thD d) (Sum.inr w) with
    | none =>
      try simp only [onO_nx, onO_rt, onO_bad, onO_out, onO_ite, on_ite, onO_seq, onO_skip, onO_if, onO_ret, onO_set, onO_ex, onO_for, on_bindI, on_okI, on_badI, fCall, fCons, fNil, fPv, fC, fOp, fTest, fNotT, fAndT, fOrT, fAndV, fOrV, fNotV, fIf, fTup, fLst, fLstM, fSl, fPart, fNoP, fMethL, fNeg, fPut, fPar, fAsg, fYes, List.getElem?_cons_zero, List.getElem?_cons_succ, List.set_cons_zero, List.set_cons_succ, List.map_cons, List.map_nil, List.nil_append, List.cons_append, List.length_cons, List.length_nil, List.reduceReplicate, Nat.reduceSub, Nat.reduceAdd, Nat.zero_add, Bool.not_true, Bool.not_false, if_true, if_false, reduceIte, Bool.false_eq_true, reduceCtorEq, datas, Option.map_some, Option.bind_some, e_add, e_sub, e_lt, e_le, e_gt, e_ge, e_eqI, e_eqB, e_neI, e_neT, e_lenL, e_lenT, ixN43, ixN42, ixN41, ixN10, decide_true, decide_false, Option.map_none, Option.isSome_none, show (0 : Nat) ≤ sizeLine from by decide]
      exact fin_more rfl fl1 ⟨rfl, rfl⟩
    | some v =>
      try simp only [onO_nx, onO_rt, onO_bad, onO_out, onO_ite, on_ite, onO_seq, onO_skip, onO_if, onO_ret, onO_set, onO_ex, onO_for, on_bindI, on_okI, on_badI, fCall, fCons, fNil, fPv, fC, fOp, fTest, fNotT, fAndT, fOrT, fAndV, fOrV, fNotV, fIf, fTup, fLst, fLstM, fSl, fPart, fNoP, fMethL, fNeg, fPut, fPar, fAsg, fYes, List.getElem?_cons_zero, List.getElem?_cons_succ, List.set_cons_zero, List.set_cons_succ, List.map_cons, List.map_nil, List.nil_append, List.cons_append, List.length_cons, List.length_nil, List.reduceReplicate, Nat.reduceSub, Nat.reduceAdd, Nat.zero_add, Bool.not_true, Bool.not_false, if_true, if_false, reduceIte, Bool.false_eq_true, reduceCtorEq, datas, Option.map_some, Option.bind_some, e_add, e_sub, e_lt, e_le, e_gt, e_ge, e_eqI, e_eqB, e_neI, e_neT, e_lenL, e_lenT, ixN43, ixN42, ixN41, ixN10, decide_true, decide_false, Option.map_some, Option.isSome_some, i1]
      simp only [oDGet, dctW, at_new, keyD, getW_kv, Option.bind_some, e, Option.map_some]
      try simp only [onO_nx, onO_rt, onO_bad, onO_out, onO_ite, on_ite, onO_seq, onO_skip, onO_if, onO_ret, onO_set, onO_ex, onO_for, on_bindI, on_okI, on_badI, fCall, fCons, fNil, fPv, fC, fOp, fTest, fNotT, fAndT, fOrT, fAndV, fOrV, fNotV, fIf, fTup, fLst, fLstM, fSl, fPart, fNoP, fMethL, fNeg, fPut, fPar, fAsg, fYes, List.getElem?_cons_zero, List.getElem?_cons_succ, List.set_cons_zero, List.set_cons_succ, List.map_cons, List.map_nil, List.nil_append, List.cons_append, List.length_cons, List.length_nil, List.reduceReplicate, Nat.reduceSub, Nat.reduceAdd, Nat.zero_add, Bool.not_true, Bool.not_false, if_true, if_false, reduceIte, Bool.false_eq_true, reduceCtorEq, datas, Option.map_some, Option.bind_some, e_add, e_sub, e_lt, e_le, e_gt, e_ge, e_eqI, e_eqB, e_neI, e_neT, e_lenL, e_lenT, ixN43, ixN42, ixN41, ixN10, decide_true, decide_false, show (2 : Nat) ≤ sizeLine from by decide, show (1 : Nat) ≤ sizeLine from by decide]
      exact fin_more rfl fl1 ⟨rfl, rfl⟩
  | num k =>
    simp only [spD]
    try simp only [onO_nx, onO_rt, onO_bad, onO_out, onO_ite, on_ite, onO_seq, onO_skip, onO_if, onO_ret, onO_set, onO_ex, onO_for, on_bindI, on_okI, on_badI, fCall, fCons, fNil, fPv, fC, fOp, fTest, fNotT, fAndT, fOrT, fAndV, fOrV, fNotV, fIf, fTup, fLst, fLstM, fSl, fPart, fNoP, fMethL, fNeg, fPut, fPar, fAsg, fYes, List.getElem?_cons_zero, List.getElem?_cons_succ, List.set_cons_zero, List.set_cons_succ, List.map_cons, List.map_nil, List.nil_append, List.cons_append, List.length_cons, List.length_nil, List.reduceReplicate, Nat.reduceSub, Nat.reduceAdd, Nat.zero_add, Bool.not_true, Bool.not_false, if_true, if_false, reduceIte, Bool.false_eq_true, reduceCtorEq, datas, Option.map_some, Option.bind_some, e_add, e_sub, e_lt, e_le, e_gt, e_ge, e_eqI, e_eqB, e_neI, e_neT, e_lenL, e_lenT, ixN43, ixN42, ixN41, ixN10, decide_true, decide_false]
    rw [ixTd at0]
    try simp only [onO_nx, onO_rt, onO_bad, onO_out, onO_ite, on_ite, onO_seq, onO_skip, onO_if, onO_ret, onO_set, onO_ex, onO_for, on_bindI, on_okI, on_badI, fCall, fCons, fNil, fPv, fC, fOp, fTest, fNotT, fAndT, fOrT, fAndV, fOrV, fNotV, fIf, fTup, fLst, fLstM, fSl, fPart, fNoP, fMethL, fNeg, fPut, fPar, fAsg, fYes, List.getElem?_cons_zero, List.getElem?_cons_succ, List.set_cons_zero, List.set_cons_succ, List.map_cons, List.map_nil, List.nil_append, List.cons_append, List.length_cons, List.length_nil, List.reduceReplicate, Nat.reduceSub, Nat.reduceAdd, Nat.zero_add, Bool.not_true, Bool.not_false, if_true, if_false, reduceIte, Bool.false_eq_true, reduceCtorEq, datas, Option.map_some, Option.bind_some, e_add, e_sub, e_lt, e_le, e_gt, e_ge, e_eqI, e_eqB, e_neI, e_neT, e_lenL, e_lenT, ixN43, ixN42, ixN41, ixN10, decide_true, decide_false, things_on h fl]
    rw [e_eqD (by rw [sh_field, sh_at]; rfl), eqv_str]
    try simp only [onO_nx, onO_rt, onO_bad, onO_out, onO_ite, on_ite, onO_seq, onO_skip, onO_if, onO_ret, onO_set, onO_ex, onO_for, on_bindI, on_okI, on_badI, fCall, fCons, fNil, fPv, fC, fOp, fTest, fNotT, fAndT, fOrT, fAndV, fOrV, fNotV, fIf, fTup, fLst, fLstM, fSl, fPart, fNoP, fMethL, fNeg, fPut, fPar, fAsg, fYes, List.getElem?_cons_zero, List.getElem?_cons_succ, List.set_cons_zero, List.set_cons_succ, List.map_cons, List.map_nil, List.nil_append, List.cons_append, List.length_cons, List.length_nil, List.reduceReplicate, Nat.reduceSub, Nat.reduceAdd, Nat.zero_add, Bool.not_true, Bool.not_false, if_true, if_false, reduceIte, Bool.false_eq_true, reduceCtorEq, datas, Option.map_some, Option.bind_some, e_add, e_sub, e_lt, e_le, e_gt, e_ge, e_eqI, e_eqB, e_neI, e_neT, e_lenL, e_lenT, ixN43, ixN42, ixN41, ixN10, decide_true, decide_false, show decide (("at" : Str) = "field") = false from by decide]
    rw [e_eqD (by rw [sh_at]; rfl), eqv_str]
    have i1 : oIxT (.d (.tuple [.str "at", .int (k : Nat)])) (.d (.int 1)) (M ++ [.dct (kvW (thD d))]) = .ok (.d (.int (k : Nat))) (M ++ [.dct (kvW (thD d))]) := ixTd at1
    try simp only [onO_nx, onO_rt, onO_bad, onO_out, onO_ite, on_ite, onO_seq, onO_skip, onO_if, onO_ret, onO_set, onO_ex, onO_for, on_bindI, on_okI, on_badI, fCall, fCons, fNil, fPv, fC, fOp, fTest, fNotT, fAndT, fOrT, fAndV, fOrV, fNotV, fIf, fTup, fLst, fLstM, fSl, fPart, fNoP, fMethL, fNeg, fPut, fPar, fAsg, fYes, List.getElem?_cons_zero, List.getElem?_cons_succ, List.set_cons_zero, List.set_cons_succ, List.map_cons, List.map_nil, List.nil_append, List.cons_append, List.length_cons, List.length_nil, List.reduceReplicate, Nat.reduceSub, Nat.reduceAdd, Nat.zero_add, Bool.not_true, Bool.not_false, if_true, if_false, reduceIte, Bool.false_eq_true, reduceCtorEq, datas, Option.map_some, Option.bind_some, e_add, e_sub, e_lt, e_le, e_gt, e_ge, e_eqI, e_eqB, e_neI, e_neT, e_lenL, e_lenT, ixN43, ixN42, ixN41, ixN10, decide_true, decide_false, i1]
    simp only [oDIn, dctW, at_new, keyD, getW_kv, comesD]
    cases e : getD (thD d) (Sum.inl (k : Int)) with
    | none =>
      try simp only [onO_nx, onO_rt, onO_bad, onO_out, onO_ite, on_ite, onO_seq, onO_skip, onO_if, onO_ret, onO_set, onO_ex, onO_for, on_bindI, on_okI, on_badI, fCall, fCons, fNil, fPv, fC, fOp, fTest, fNotT, fAndT, fOrT, fAndV, fOrV, fNotV, fIf, fTup, fLst, fLstM, fSl, fPart, fNoP, fMethL, fNeg, fPut, fPar, fAsg, fYes, List.getElem?_cons_zero, List.getElem?_cons_succ, List.set_cons_zero, List.set_cons_succ, List.map_cons, List.map_nil, List.nil_append, List.cons_append, List.length_cons, List.length_nil, List.reduceReplicate, Nat.reduceSub, Nat.reduceAdd, Nat.zero_add, Bool.not_true, Bool.not_false, if_true, if_false, reduceIte, Bool.false_eq_true, reduceCtorEq, datas, Option.map_some, Option.bind_some, e_add, e_sub, e_lt, e_le, e_gt, e_ge, e_eqI, e_eqB, e_neI, e_neT, e_lenL, e_lenT, ixN43, ixN42, ixN41, ixN10, decide_true, decide_false, Option.map_none, Option.isSome_none, show (0 : Nat) ≤ sizeLine from by decide]
      exact fin_more rfl fl1 ⟨rfl, rfl⟩
    | some v =>
      try simp only [onO_nx, onO_rt, onO_bad, onO_out, onO_ite, on_ite, onO_seq, onO_skip, onO_if, onO_ret, onO_set, onO_ex, onO_for, on_bindI, on_okI, on_badI, fCall, fCons, fNil, fPv, fC, fOp, fTest, fNotT, fAndT, fOrT, fAndV, fOrV, fNotV, fIf, fTup, fLst, fLstM, fSl, fPart, fNoP, fMethL, fNeg, fPut, fPar, fAsg, fYes, List.getElem?_cons_zero, List.getElem?_cons_succ, List.set_cons_zero, List.set_cons_succ, List.map_cons, List.map_nil, List.nil_append, List.cons_append, List.length_cons, List.length_nil, List.reduceReplicate, Nat.reduceSub, Nat.reduceAdd, Nat.zero_add, Bool.not_true, Bool.not_false, if_true, if_false, reduceIte, Bool.false_eq_true, reduceCtorEq, datas, Option.map_some, Option.bind_some, e_add, e_sub, e_lt, e_le, e_gt, e_ge, e_eqI, e_eqB, e_neI, e_neT, e_lenL, e_lenT, ixN43, ixN42, ixN41, ixN10, decide_true, decide_false, Option.map_some, Option.isSome_some, i1]
      simp only [oDGet, dctW, at_new, keyD, getW_kv, Option.bind_some, e, Option.map_some]
      try simp only [onO_nx, onO_rt, onO_bad, onO_out, onO_ite, on_ite, onO_seq, onO_skip, onO_if, onO_ret, onO_set, onO_ex, onO_for, on_bindI, on_okI, on_badI, fCall, fCons, fNil, fPv, fC, fOp, fTest, fNotT, fAndT, fOrT, fAndV, fOrV, fNotV, fIf, fTup, fLst, fLstM, fSl, fPart, fNoP, fMethL, fNeg, fPut, fPar, fAsg, fYes, List.getElem?_cons_zero, List.getElem?_cons_succ, List.set_cons_zero, List.set_cons_succ, List.map_cons, List.map_nil, List.nil_append, List.cons_append, List.length_cons, List.length_nil, List.reduceReplicate, Nat.reduceSub, Nat.reduceAdd, Nat.zero_add, Bool.not_true, Bool.not_false, if_true, if_false, reduceIte, Bool.false_eq_true, reduceCtorEq, datas, Option.map_some, Option.bind_some, e_add, e_sub, e_lt, e_le, e_gt, e_ge, e_eqI, e_eqB, e_neI, e_neT, e_lenL, e_lenT, ixN43, ixN42, ixN41, ixN10, decide_true, decide_false, show (2 : Nat) ≤ sizeLine from by decide, show (1 : Nat) ≤ sizeLine from by decide]
      exact fin_more rfl fl1 ⟨rfl, rfl⟩
  | each =>
    simp only [spD]
    try simp only [onO_nx, onO_rt, onO_bad, onO_out, onO_ite, on_ite, onO_seq, onO_skip, onO_if, onO_ret, onO_set, onO_ex, onO_for, on_bindI, on_okI, on_badI, fCall, fCons, fNil, fPv, fC, fOp, fTest, fNotT, fAndT, fOrT, fAndV, fOrV, fNotV, fIf, fTup, fLst, fLstM, fSl, fPart, fNoP, fMethL, fNeg, fPut, fPar, fAsg, fYes, List.getElem?_cons_zero, List.getElem?_cons_succ, List.set_cons_zero, List.set_cons_succ, List.map_cons, List.map_nil, List.nil_append, List.cons_append, List.length_cons, List.length_nil, List.reduceReplicate, Nat.reduceSub, Nat.reduceAdd, Nat.zero_add, Bool.not_true, Bool.not_false, if_true, if_false, reduceIte, Bool.false_eq_true, reduceCtorEq, datas, Option.map_some, Option.bind_some, e_add, e_sub, e_lt, e_le, e_gt, e_ge, e_eqI, e_eqB, e_neI, e_neT, e_lenL, e_lenT, ixN43, ixN42, ixN41, ixN10, decide_true, decide_false]
    rw [ixTd at0]
    try simp only [onO_nx, onO_rt, onO_bad, onO_out, onO_ite, on_ite, onO_seq, onO_skip, onO_if, onO_ret, onO_set, onO_ex, onO_for, on_bindI, on_okI, on_badI, fCall, fCons, fNil, fPv, fC, fOp, fTest, fNotT, fAndT, fOrT, fAndV, fOrV, fNotV, fIf, fTup, fLst, fLstM, fSl, fPart, fNoP, fMethL, fNeg, fPut, fPar, fAsg, fYes, List.getElem?_cons_zero, List.getElem?_cons_succ, List.set_cons_zero, List.set_cons_succ, List.map_cons, List.map_nil, List.nil_append, List.cons_append, List.length_cons, List.length_nil, List.reduceReplicate, Nat.reduceSub, Nat.reduceAdd, Nat.zero_add, Bool.not_true, Bool.not_false, if_true, if_false, reduceIte, Bool.false_eq_true, reduceCtorEq, datas, Option.map_some, Option.bind_some, e_add, e_sub, e_lt, e_le, e_gt, e_ge, e_eqI, e_eqB, e_neI, e_neT, e_lenL, e_lenT, ixN43, ixN42, ixN41, ixN10, decide_true, decide_false, things_on h fl]
    rw [e_eqD (by rw [sh_field, sh_each]; rfl), eqv_str]
    try simp only [onO_nx, onO_rt, onO_bad, onO_out, onO_ite, on_ite, onO_seq, onO_skip, onO_if, onO_ret, onO_set, onO_ex, onO_for, on_bindI, on_okI, on_badI, fCall, fCons, fNil, fPv, fC, fOp, fTest, fNotT, fAndT, fOrT, fAndV, fOrV, fNotV, fIf, fTup, fLst, fLstM, fSl, fPart, fNoP, fMethL, fNeg, fPut, fPar, fAsg, fYes, List.getElem?_cons_zero, List.getElem?_cons_succ, List.set_cons_zero, List.set_cons_succ, List.map_cons, List.map_nil, List.nil_append, List.cons_append, List.length_cons, List.length_nil, List.reduceReplicate, Nat.reduceSub, Nat.reduceAdd, Nat.zero_add, Bool.not_true, Bool.not_false, if_true, if_false, reduceIte, Bool.false_eq_true, reduceCtorEq, datas, Option.map_some, Option.bind_some, e_add, e_sub, e_lt, e_le, e_gt, e_ge, e_eqI, e_eqB, e_neI, e_neT, e_lenL, e_lenT, ixN43, ixN42, ixN41, ixN10, decide_true, decide_false, show decide (("each" : Str) = "field") = false from by decide]
    rw [e_eqD (by rw [sh_at, sh_each]; rfl), eqv_str]
    try simp only [onO_nx, onO_rt, onO_bad, onO_out, onO_ite, on_ite, onO_seq, onO_skip, onO_if, onO_ret, onO_set, onO_ex, onO_for, on_bindI, on_okI, on_badI, fCall, fCons, fNil, fPv, fC, fOp, fTest, fNotT, fAndT, fOrT, fAndV, fOrV, fNotV, fIf, fTup, fLst, fLstM, fSl, fPart, fNoP, fMethL, fNeg, fPut, fPar, fAsg, fYes, List.getElem?_cons_zero, List.getElem?_cons_succ, List.set_cons_zero, List.set_cons_succ, List.map_cons, List.map_nil, List.nil_append, List.cons_append, List.length_cons, List.length_nil, List.reduceReplicate, Nat.reduceSub, Nat.reduceAdd, Nat.zero_add, Bool.not_true, Bool.not_false, if_true, if_false, reduceIte, Bool.false_eq_true, reduceCtorEq, datas, Option.map_some, Option.bind_some, e_add, e_sub, e_lt, e_le, e_gt, e_ge, e_eqI, e_eqB, e_neI, e_neT, e_lenL, e_lenT, ixN43, ixN42, ixN41, ixN10, decide_true, decide_false, show decide (("each" : Str) = "at") = false from by decide, isrow_eq h fl1]
    cases er : isRw d with
    | false =>
      try simp only [onO_nx, onO_rt, onO_bad, onO_out, onO_ite, on_ite, onO_seq, onO_skip, onO_if, onO_ret, onO_set, onO_ex, onO_for, on_bindI, on_okI, on_badI, fCall, fCons, fNil, fPv, fC, fOp, fTest, fNotT, fAndT, fOrT, fAndV, fOrV, fNotV, fIf, fTup, fLst, fLstM, fSl, fPart, fNoP, fMethL, fNeg, fPut, fPar, fAsg, fYes, List.getElem?_cons_zero, List.getElem?_cons_succ, List.set_cons_zero, List.set_cons_succ, List.map_cons, List.map_nil, List.nil_append, List.cons_append, List.length_cons, List.length_nil, List.reduceReplicate, Nat.reduceSub, Nat.reduceAdd, Nat.zero_add, Bool.not_true, Bool.not_false, if_true, if_false, reduceIte, Bool.false_eq_true, reduceCtorEq, datas, Option.map_some, Option.bind_some, e_add, e_sub, e_lt, e_le, e_gt, e_ge, e_eqI, e_eqB, e_neI, e_neT, e_lenL, e_lenT, ixN43, ixN42, ixN41, ixN10, decide_true, decide_false, show (0 : Nat) ≤ sizeLine from by decide]
      exact fin_more rfl fl1 ⟨by simp [comesD, er], rfl⟩
    | true =>
      try simp only [onO_nx, onO_rt, onO_bad, onO_out, onO_ite, on_ite, onO_seq, onO_skip, onO_if, onO_ret, onO_set, onO_ex, onO_for, on_bindI, on_okI, on_badI, fCall, fCons, fNil, fPv, fC, fOp, fTest, fNotT, fAndT, fOrT, fAndV, fOrV, fNotV, fIf, fTup, fLst, fLstM, fSl, fPart, fNoP, fMethL, fNeg, fPut, fPar, fAsg, fYes, List.getElem?_cons_zero, List.getElem?_cons_succ, List.set_cons_zero, List.set_cons_succ, List.map_cons, List.map_nil, List.nil_append, List.cons_append, List.length_cons, List.length_nil, List.reduceReplicate, Nat.reduceSub, Nat.reduceAdd, Nat.zero_add, Bool.not_true, Bool.not_false, if_true, if_false, reduceIte, Bool.false_eq_true, reduceCtorEq, datas, Option.map_some, Option.bind_some, e_add, e_sub, e_lt, e_le, e_gt, e_ge, e_eqI, e_eqB, e_neI, e_neT, e_lenL, e_lenT, ixN43, ixN42, ixN41, ixN10, decide_true, decide_false]
      rw [e_eqD (by rw [sh_each]; rfl), eqv_str]
      try simp only [onO_nx, onO_rt, onO_bad, onO_out, onO_ite, on_ite, onO_seq, onO_skip, onO_if, onO_ret, onO_set, onO_ex, onO_for, on_bindI, on_okI, on_badI, fCall, fCons, fNil, fPv, fC, fOp, fTest, fNotT, fAndT, fOrT, fAndV, fOrV, fNotV, fIf, fTup, fLst, fLstM, fSl, fPart, fNoP, fMethL, fNeg, fPut, fPar, fAsg, fYes, List.getElem?_cons_zero, List.getElem?_cons_succ, List.set_cons_zero, List.set_cons_succ, List.map_cons, List.map_nil, List.nil_append, List.cons_append, List.length_cons, List.length_nil, List.reduceReplicate, Nat.reduceSub, Nat.reduceAdd, Nat.zero_add, Bool.not_true, Bool.not_false, if_true, if_false, reduceIte, Bool.false_eq_true, reduceCtorEq, datas, Option.map_some, Option.bind_some, e_add, e_sub, e_lt, e_le, e_gt, e_ge, e_eqI, e_eqB, e_neI, e_neT, e_lenL, e_lenT, ixN43, ixN42, ixN41, ixN10, decide_true, decide_false, fListItems]
      simp only [at_new, items_kv]
      exact on_okI.mpr (fin_more rfl fl1 ⟨by simp [comesD, er], rfl⟩)
  | whr w p =>
    obtain ⟨hw, hp⟩ := hs
    have pk := pl_ok p hp
    have ps : SeqAt.shaped p = true := shaped_ok pk.1 (by rw [pk.2.2.2]; omega)
    simp only [spD]
    try simp only [onO_nx, onO_rt, onO_bad, onO_out, onO_ite, on_ite, onO_seq, onO_skip, onO_if, onO_ret, onO_set, onO_ex, onO_for, on_bindI, on_okI, on_badI, fCall, fCons, fNil, fPv, fC, fOp, fTest, fNotT, fAndT, fOrT, fAndV, fOrV, fNotV, fIf, fTup, fLst, fLstM, fSl, fPart, fNoP, fMethL, fNeg, fPut, fPar, fAsg, fYes, List.getElem?_cons_zero, List.getElem?_cons_succ, List.set_cons_zero, List.set_cons_succ, List.map_cons, List.map_nil, List.nil_append, List.cons_append, List.length_cons, List.length_nil, List.reduceReplicate, Nat.reduceSub, Nat.reduceAdd, Nat.zero_add, Bool.not_true, Bool.not_false, if_true, if_false, reduceIte, Bool.false_eq_true, reduceCtorEq, datas, Option.map_some, Option.bind_some, e_add, e_sub, e_lt, e_le, e_gt, e_ge, e_eqI, e_eqB, e_neI, e_neT, e_lenL, e_lenT, ixN43, ixN42, ixN41, ixN10, decide_true, decide_false]
    rw [ixTd at0]
    try simp only [onO_nx, onO_rt, onO_bad, onO_out, onO_ite, on_ite, onO_seq, onO_skip, onO_if, onO_ret, onO_set, onO_ex, onO_for, on_bindI, on_okI, on_badI, fCall, fCons, fNil, fPv, fC, fOp, fTest, fNotT, fAndT, fOrT, fAndV, fOrV, fNotV, fIf, fTup, fLst, fLstM, fSl, fPart, fNoP, fMethL, fNeg, fPut, fPar, fAsg, fYes, List.getElem?_cons_zero, List.getElem?_cons_succ, List.set_cons_zero, List.set_cons_succ, List.map_cons, List.map_nil, List.nil_append, List.cons_append, List.length_cons, List.length_nil, List.reduceReplicate, Nat.reduceSub, Nat.reduceAdd, Nat.zero_add, Bool.not_true, Bool.not_false, if_true, if_false, reduceIte, Bool.false_eq_true, reduceCtorEq, datas, Option.map_some, Option.bind_some, e_add, e_sub, e_lt, e_le, e_gt, e_ge, e_eqI, e_eqB, e_neI, e_neT, e_lenL, e_lenT, ixN43, ixN42, ixN41, ixN10, decide_true, decide_false, things_on h fl]
    rw [e_eqD (by rw [sh_field, sh_where]; rfl), eqv_str]
    try simp only [onO_nx, onO_rt, onO_bad, onO_out, onO_ite, on_ite, onO_seq, onO_skip, onO_if, onO_ret, onO_set, onO_ex, onO_for, on_bindI, on_okI, on_badI, fCall, fCons, fNil, fPv, fC, fOp, fTest, fNotT, fAndT, fOrT, fAndV, fOrV, fNotV, fIf, fTup, fLst, fLstM, fSl, fPart, fNoP, fMethL, fNeg, fPut, fPar, fAsg, fYes, List.getElem?_cons_zero, List.getElem?_cons_succ, List.set_cons_zero, List.set_cons_succ, List.map_cons, List.map_nil, List.nil_append, List.cons_append, List.length_cons, List.length_nil, List.reduceReplicate, Nat.reduceSub, Nat.reduceAdd, Nat.zero_add, Bool.not_true, Bool.not_false, if_true, if_false, reduceIte, Bool.false_eq_true, reduceCtorEq, datas, Option.map_some, Option.bind_some, e_add, e_sub, e_lt, e_le, e_gt, e_ge, e_eqI, e_eqB, e_neI, e_neT, e_lenL, e_lenT, ixN43, ixN42, ixN41, ixN10, decide_true, decide_false, show decide (("where" : Str) = "field") = false from by decide]
    rw [e_eqD (by rw [sh_at, sh_where]; rfl), eqv_str]
    try simp only [onO_nx, onO_rt, onO_bad, onO_out, onO_ite, on_ite, onO_seq, onO_skip, onO_if, onO_ret, onO_set, onO_ex, onO_for, on_bindI, on_okI, on_badI, fCall, fCons, fNil, fPv, fC, fOp, fTest, fNotT, fAndT, fOrT, fAndV, fOrV, fNotV, fIf, fTup, fLst, fLstM, fSl, fPart, fNoP, fMethL, fNeg, fPut, fPar, fAsg, fYes, List.getElem?_cons_zero, List.getElem?_cons_succ, List.set_cons_zero, List.set_cons_succ, List.map_cons, List.map_nil, List.nil_append, List.cons_append, List.length_cons, List.length_nil, List.reduceReplicate, Nat.reduceSub, Nat.reduceAdd, Nat.zero_add, Bool.not_true, Bool.not_false, if_true, if_false, reduceIte, Bool.false_eq_true, reduceCtorEq, datas, Option.map_some, Option.bind_some, e_add, e_sub, e_lt, e_le, e_gt, e_ge, e_eqI, e_eqB, e_neI, e_neT, e_lenL, e_lenT, ixN43, ixN42, ixN41, ixN10, decide_true, decide_false, show decide (("where" : Str) = "at") = false from by decide, isrow_eq h fl1]
    cases er : isRw d with
    | false =>
      try simp only [onO_nx, onO_rt, onO_bad, onO_out, onO_ite, on_ite, onO_seq, onO_skip, onO_if, onO_ret, onO_set, onO_ex, onO_for, on_bindI, on_okI, on_badI, fCall, fCons, fNil, fPv, fC, fOp, fTest, fNotT, fAndT, fOrT, fAndV, fOrV, fNotV, fIf, fTup, fLst, fLstM, fSl, fPart, fNoP, fMethL, fNeg, fPut, fPar, fAsg, fYes, List.getElem?_cons_zero, List.getElem?_cons_succ, List.set_cons_zero, List.set_cons_succ, List.map_cons, List.map_nil, List.nil_append, List.cons_append, List.length_cons, List.length_nil, List.reduceReplicate, Nat.reduceSub, Nat.reduceAdd, Nat.zero_add, Bool.not_true, Bool.not_false, if_true, if_false, reduceIte, Bool.false_eq_true, reduceCtorEq, datas, Option.map_some, Option.bind_some, e_add, e_sub, e_lt, e_le, e_gt, e_ge, e_eqI, e_eqB, e_neI, e_neT, e_lenL, e_lenT, ixN43, ixN42, ixN41, ixN10, decide_true, decide_false, show (0 : Nat) ≤ sizeLine from by decide]
      exact fin_more rfl fl1 ⟨by simp [comesD, er], rfl⟩
    | true =>
      try simp only [onO_nx, onO_rt, onO_bad, onO_out, onO_ite, on_ite, onO_seq, onO_skip, onO_if, onO_ret, onO_set, onO_ex, onO_for, on_bindI, on_okI, on_badI, fCall, fCons, fNil, fPv, fC, fOp, fTest, fNotT, fAndT, fOrT, fAndV, fOrV, fNotV, fIf, fTup, fLst, fLstM, fSl, fPart, fNoP, fMethL, fNeg, fPut, fPar, fAsg, fYes, List.getElem?_cons_zero, List.getElem?_cons_succ, List.set_cons_zero, List.set_cons_succ, List.map_cons, List.map_nil, List.nil_append, List.cons_append, List.length_cons, List.length_nil, List.reduceReplicate, Nat.reduceSub, Nat.reduceAdd, Nat.zero_add, Bool.not_true, Bool.not_false, if_true, if_false, reduceIte, Bool.false_eq_true, reduceCtorEq, datas, Option.map_some, Option.bind_some, e_add, e_sub, e_lt, e_le, e_gt, e_ge, e_eqI, e_eqB, e_neI, e_neT, e_lenL, e_lenT, ixN43, ixN42, ixN41, ixN10, decide_true, decide_false]
      rw [e_eqD (by rw [sh_each, sh_where]; rfl), eqv_str]
      try simp only [onO_nx, onO_rt, onO_bad, onO_out, onO_ite, on_ite, onO_seq, onO_skip, onO_if, onO_ret, onO_set, onO_ex, onO_for, on_bindI, on_okI, on_badI, fCall, fCons, fNil, fPv, fC, fOp, fTest, fNotT, fAndT, fOrT, fAndV, fOrV, fNotV, fIf, fTup, fLst, fLstM, fSl, fPart, fNoP, fMethL, fNeg, fPut, fPar, fAsg, fYes, List.getElem?_cons_zero, List.getElem?_cons_succ, List.set_cons_zero, List.set_cons_succ, List.map_cons, List.map_nil, List.nil_append, List.cons_append, List.length_cons, List.length_nil, List.reduceReplicate, Nat.reduceSub, Nat.reduceAdd, Nat.zero_add, Bool.not_true, Bool.not_false, if_true, if_false, reduceIte, Bool.false_eq_true, reduceCtorEq, datas, Option.map_some, Option.bind_some, e_add, e_sub, e_lt, e_le, e_gt, e_ge, e_eqI, e_eqB, e_neI, e_neT, e_lenL, e_lenT, ixN43, ixN42, ixN41, ixN10, decide_true, decide_false, show decide (("where" : Str) = "each") = false from by decide, fLock]
      simp only [at_new]
      have eset : (M ++ [Ob.dct (kvW (thD d))]).set M.length (.lk (kvW (thD d))) = M ++ [.lk (kvW (thD d))] := by simp
      rw [eset]
      have fl2 : Flat (M ++ [.lk (kvW (thD d))]) := fl.app (kv_fl (thD d))
      unfold fLc fiItems
      try simp only [onO_nx, onO_rt, onO_bad, onO_out, onO_ite, on_ite, onO_seq, onO_skip, onO_if, onO_ret, onO_set, onO_ex, onO_for, on_bindI, on_okI, on_badI, fCall, fCons, fNil, fPv, fC, fOp, fTest, fNotT, fAndT, fOrT, fAndV, fOrV, fNotV, fIf, fTup, fLst, fLstM, fSl, fPart, fNoP, fMethL, fNeg, fPut, fPar, fAsg, fYes, List.getElem?_cons_zero, List.getElem?_cons_succ, List.set_cons_zero, List.set_cons_succ, List.map_cons, List.map_nil, List.nil_append, List.cons_append, List.length_cons, List.length_nil, List.reduceReplicate, Nat.reduceSub, Nat.reduceAdd, Nat.zero_add, Bool.not_true, Bool.not_false, if_true, if_false, reduceIte, Bool.false_eq_true, reduceCtorEq, datas, Option.map_some, Option.bind_some, e_add, e_sub, e_lt, e_le, e_gt, e_ge, e_eqI, e_eqB, e_neI, e_neT, e_lenL, e_lenT, ixN43, ixN42, ixN41, ixN10, decide_true, decide_false]
      simp only [at_new]
      try simp only [onO_nx, onO_rt, onO_bad, onO_out, onO_ite, on_ite, onO_seq, onO_skip, onO_if, onO_ret, onO_set, onO_ex, onO_for, on_bindI, on_okI, on_badI, fCall, fCons, fNil, fPv, fC, fOp, fTest, fNotT, fAndT, fOrT, fAndV, fOrV, fNotV, fIf, fTup, fLst, fLstM, fSl, fPart, fNoP, fMethL, fNeg, fPut, fPar, fAsg, fYes, List.getElem?_cons_zero, List.getElem?_cons_succ, List.set_cons_zero, List.set_cons_succ, List.map_cons, List.map_nil, List.nil_append, List.cons_append, List.length_cons, List.length_nil, List.reduceReplicate, Nat.reduceSub, Nat.reduceAdd, Nat.zero_add, Bool.not_true, Bool.not_false, if_true, if_false, reduceIte, Bool.false_eq_true, reduceCtorEq, datas, Option.map_some, Option.bind_some, e_add, e_sub, e_lt, e_le, e_gt, e_ge, e_eqI, e_eqB, e_neI, e_neT, e_lenL, e_lenT, ixN43, ixN42, ixN41, ixN10, decide_true, decide_false]
      refine lc_on (fun i M1 acc => M1 = M ++ [.lk (kvW (thD d))] ∧ acc = (((thD d).take i).filter fun q => hasLk q.2 w p).map prD) ?st ?fin ⟨rfl, rfl⟩
      case st =>
        rintro i it _ _ hi ⟨rfl, rfl⟩
        rw [List.getElem?_map, kvW, List.getElem?_map] at hi
        cases e : (thD d)[i]? with
        | none => rw [e] at hi; cases hi
        | some q =>
          rw [e] at hi
          cases hi
          have hq := (thD_vg h q (List.mem_of_getElem? e)).1
          refine ⟨trivial, _, rfl, ?_⟩
          try simp only [onO_nx, onO_rt, onO_bad, onO_out, onO_ite, on_ite, onO_seq, onO_skip, onO_if, onO_ret, onO_set, onO_ex, onO_for, on_bindI, on_okI, on_badI, fCall, fCons, fNil, fPv, fC, fOp, fTest, fNotT, fAndT, fOrT, fAndV, fOrV, fNotV, fIf, fTup, fLst, fLstM, fSl, fPart, fNoP, fMethL, fNeg, fPut, fPar, fAsg, fYes, List.getElem?_cons_zero, List.getElem?_cons_succ, List.set_cons_zero, List.set_cons_succ, List.map_cons, List.map_nil, List.nil_append, List.cons_append, List.length_cons, List.length_nil, List.reduceReplicate, Nat.reduceSub, Nat.reduceAdd, Nat.zero_add, Bool.not_true, Bool.not_false, if_true, if_false, reduceIte, Bool.false_eq_true, reduceCtorEq, datas, Option.map_some, Option.bind_some, e_add, e_sub, e_lt, e_le, e_gt, e_ge, e_eqI, e_eqB, e_neI, e_neT, e_lenL, e_lenT, ixN43, ixN42, ixN41, ixN10, decide_true, decide_false, wipeD, ixTd (M := M ++ [.lk (kvW (thD d))]) (at1 (a := .str "where") (b := .str w) (as := [p])), ixTd (M := M ++ [.lk (kvW (thD d))]) (at2 (a := .str "where") (b := .str w) (c := p) (as := [])), haslike_eq hq hn fl2 ps pk.2.1]
          cases eh : hasLk q.2 w p with
          | true =>
            try simp only [onO_nx, onO_rt, onO_bad, onO_out, onO_ite, on_ite, onO_seq, onO_skip, onO_if, onO_ret, onO_set, onO_ex, onO_for, on_bindI, on_okI, on_badI, fCall, fCons, fNil, fPv, fC, fOp, fTest, fNotT, fAndT, fOrT, fAndV, fOrV, fNotV, fIf, fTup, fLst, fLstM, fSl, fPart, fNoP, fMethL, fNeg, fPut, fPar, fAsg, fYes, List.getElem?_cons_zero, List.getElem?_cons_succ, List.set_cons_zero, List.set_cons_succ, List.map_cons, List.map_nil, List.nil_append, List.cons_append, List.length_cons, List.length_nil, List.reduceReplicate, Nat.reduceSub, Nat.reduceAdd, Nat.zero_add, Bool.not_true, Bool.not_false, if_true, if_false, reduceIte, Bool.false_eq_true, reduceCtorEq, datas, Option.map_some, Option.bind_some, e_add, e_sub, e_lt, e_le, e_gt, e_ge, e_eqI, e_eqB, e_neI, e_neT, e_lenL, e_lenT, ixN43, ixN42, ixN41, ixN10, decide_true, decide_false, show (2 : Nat) ≤ sizeLine from by decide]
            refine ⟨_, rfl, ?_, trivial, ?_⟩
            · have : (((thD d).take i).filter fun q => hasLk q.2 w p).length ≤ (thD d).length := Nat.le_trans (List.length_filter_le _ _) (by rw [List.length_take]; omega)
              rw [List.length_map]
              exact Nat.lt_of_le_of_lt (show _ ≤ 30 by omega) (by decide)
            · rw [filter_snoc e, eh, List.map_append]
              rfl
          | false =>
            try simp only [onO_nx, onO_rt, onO_bad, onO_out, onO_ite, on_ite, onO_seq, onO_skip, onO_if, onO_ret, onO_set, onO_ex, onO_for, on_bindI, on_okI, on_badI, fCall, fCons, fNil, fPv, fC, fOp, fTest, fNotT, fAndT, fOrT, fAndV, fOrV, fNotV, fIf, fTup, fLst, fLstM, fSl, fPart, fNoP, fMethL, fNeg, fPut, fPar, fAsg, fYes, List.getElem?_cons_zero, List.getElem?_cons_succ, List.set_cons_zero, List.set_cons_succ, List.map_cons, List.map_nil, List.nil_append, List.cons_append, List.length_cons, List.length_nil, List.reduceReplicate, Nat.reduceSub, Nat.reduceAdd, Nat.zero_add, Bool.not_true, Bool.not_false, if_true, if_false, reduceIte, Bool.false_eq_true, reduceCtorEq, datas, Option.map_some, Option.bind_some, e_add, e_sub, e_lt, e_le, e_gt, e_ge, e_eqI, e_eqB, e_neI, e_neT, e_lenL, e_lenT, ixN43, ixN42, ixN41, ixN10, decide_true, decide_false]
            refine ⟨trivial, ?_⟩
            rw [filter_snoc e, eh]
            simp
      case fin =>
        rintro _ _ ⟨rfl, rfl⟩
        have el : ((kvW (thD d)).map fun q => Itm.pair (.d (dK q.1)) q.2).length = (thD d).length := by rw [List.length_map, kvW, List.length_map]
        rw [el, List.take_length]
        refine ⟨trivial, ?_⟩
        try simp only [onO_nx, onO_rt, onO_bad, onO_out, onO_ite, on_ite, onO_seq, onO_skip, onO_if, onO_ret, onO_set, onO_ex, onO_for, on_bindI, on_okI, on_badI, fCall, fCons, fNil, fPv, fC, fOp, fTest, fNotT, fAndT, fOrT, fAndV, fOrV, fNotV, fIf, fTup, fLst, fLstM, fSl, fPart, fNoP, fMethL, fNeg, fPut, fPar, fAsg, fYes, List.getElem?_cons_zero, List.getElem?_cons_succ, List.set_cons_zero, List.set_cons_succ, List.map_cons, List.map_nil, List.nil_append, List.cons_append, List.length_cons, List.length_nil, List.reduceReplicate, Nat.reduceSub, Nat.reduceAdd, Nat.zero_add, Bool.not_true, Bool.not_false, if_true, if_false, reduceIte, Bool.false_eq_true, reduceCtorEq, datas, Option.map_some, Option.bind_some, e_add, e_sub, e_lt, e_le, e_gt, e_ge, e_eqI, e_eqB, e_neI, e_neT, e_lenL, e_lenT, ixN43, ixN42, ixN41, ixN10, decide_true, decide_false]
        simp only [at_new]
        have eset2 : (M ++ [Ob.lk (kvW (thD d))]).set M.length (.dct (kvW (thD d))) = M ++ [.dct (kvW (thD d))] := by simp
        try simp only [onO_nx, onO_rt, onO_bad, onO_out, onO_ite, on_ite, onO_seq, onO_skip, onO_if, onO_ret, onO_set, onO_ex, onO_for, on_bindI, on_okI, on_badI, fCall, fCons, fNil, fPv, fC, fOp, fTest, fNotT, fAndT, fOrT, fAndV, fOrV, fNotV, fIf, fTup, fLst, fLstM, fSl, fPart, fNoP, fMethL, fNeg, fPut, fPar, fAsg, fYes, List.getElem?_cons_zero, List.getElem?_cons_succ, List.set_cons_zero, List.set_cons_succ, List.map_cons, List.map_nil, List.nil_append, List.cons_append, List.length_cons, List.length_nil, List.reduceReplicate, Nat.reduceSub, Nat.reduceAdd, Nat.zero_add, Bool.not_true, Bool.not_false, if_true, if_false, reduceIte, Bool.false_eq_true, reduceCtorEq, datas, Option.map_some, Option.bind_some, e_add, e_sub, e_lt, e_le, e_gt, e_ge, e_eqI, e_eqB, e_neI, e_neT, e_lenL, e_lenT, ixN43, ixN42, ixN41, ixN10, decide_true, decide_false]
        rw [eset2]
        exact fin_more rfl fl1 ⟨by simp [comesD, er], rfl⟩
end Fu

set_option Elab.async false
set_option linter.all false
set_option maxRecDepth 100000
set_option maxHeartbeats 1000000
/-! found_in, value_at. -/
namespace Fu
open PySem PySem.Spec PyProof.Rows L2 Dat LamX PySem.W
theorem lc2_on {gd : Option (Nat × List Wv)} {g g1 : Tg} {t t1 : Ft} {it1 : Fi} {f : Fx} {vs1 : List Nat} {sd : Slo} {its : List Itm} {p : List PyData → Sto → Prop} (Inv : Nat → Sto → List PyData → Prop)
    (st : ∀ i it M acc, its[i]? = some it → Inv i M acc → okG gd M ∧ ∃ sd1, bindT g it sd = some sd1 ∧ (t sd1 M).on fun c M1 => if c = true then (it1 sd1 M1).on fun I1 M2 => (lcL I1.gd g1 t1 f (wipeD sd1 vs1) I1.its M2 acc).on fun acc' M3 => Inv (i + 1) M3 acc' else Inv (i + 1) M1 acc)
    (fin : ∀ M acc, Inv its.length M acc → okG gd M ∧ p acc M) {M : Sto} {acc : List PyData} (h0 : Inv 0 M acc) : (lc2L gd g t it1 g1 t1 f sd vs1 its M acc).on p := by
  have key : ∀ (k : Nat) (M : Sto) (acc : List PyData), k ≤ its.length → Inv (its.length - k) M acc → (lc2L gd g t it1 g1 t1 f sd vs1 (its.drop (its.length - k)) M acc).on p := by
    intro k
    induction k with
    | zero =>
      intro M acc _ h
      rw [Nat.sub_zero] at h ⊢
      rw [List.drop_length]
      obtain ⟨o, n⟩ := fin M acc h
      simp only [lc2L]
      rw [if_pos o]
      exact n
    | succ k ih =>
      intro M acc hk h
      have hl : its.length - (k + 1) < its.length := by omega
      rw [List.drop_eq_getElem_cons hl]
      obtain ⟨o, sd1, e, r⟩ := st _ its[its.length - (k + 1)] M acc (List.getElem?_eq_getElem hl) h
      simp only [lc2L]
      rw [if_pos o, e]
      dsimp only
      have es : its.length - (k + 1) + 1 = its.length - k := by omega
      rw [es] at r ⊢
      rw [on_bindI]
      refine on_imp r fun c M1 h1 => ?_
      by_cases hc : c = true
      · rw [if_pos hc] at h1 ⊢
        rw [on_bindI]
        refine on_imp h1 fun I1 M2 h2 => ?_
        rw [on_bindI]
        refine on_imp h2 fun acc' M3 iv => ?_
        exact ih M3 _ (by omega) iv
      · rw [if_neg hc] at h1 ⊢
        exact ih M1 acc (by omega) h1
  have := key its.length M acc (Nat.le_refl _) (by rw [Nat.sub_self]; exact h0)
  rw [Nat.sub_self, List.drop_zero] at this
  exact this
/-! ### how much is found -/
def wt {α : Type} (L : List (α × PyData)) : Nat := (L.map fun q => szD q.2).sum
theorem wt_app {α : Type} (L M : List (α × PyData)) : wt (L ++ M) = wt L + wt M := by simp [wt]
theorem wt_sub {α : Type} {L M : List (α × PyData)} (h : L.Sublist M) : wt L ≤ wt M := by
  induction h with
  | slnil => exact Nat.le_refl _
  | cons a _ ih => simp only [wt, List.map_cons, List.sum_cons] at ih ⊢; omega
  | cons_cons a _ ih => simp only [wt, List.map_cons, List.sum_cons] at ih ⊢; omega
theorem vg_sz {n : Nat} {d : PyData} (h : VG n d) : 200 ≤ szD d := by
  cases h with
  | plain h => rw [(px_ok _ h).2.2.1]; exact Nat.le_refl _
  | row _ _ => rw [sz_row]; omega
  | tree _ _ _ _ => rw [sz_tree]; omega
theorem wt_len {α : Type} {n : Nat} : ∀ {L : List (α × PyData)}, (∀ q ∈ L, VG n q.2) → 200 * L.length ≤ wt L
  | [], _ => by simp
  | q :: L, h => by
    have h1 := vg_sz (h q List.mem_cons_self)
    have h2 := wt_len (L := L) fun r hr => h r (List.mem_cons_of_mem _ hr)
    simp only [wt, List.map_cons, List.sum_cons, List.length_cons] at h2 ⊢
    omega
theorem wt_enL : ∀ (ds : List PyData) (i : Nat), wt (enL i ds) ≤ szDs ds
  | [], _ => by simp [wt, enL]
  | d :: ds, i => by
    have := wt_enL ds (i + 1)
    simp only [wt, enL, List.map_cons, List.sum_cons, szDs] at this ⊢
    omega
theorem wt_es : ∀ es : List (Str × PyData), wt (es.map fun e => ((Sum.inr e.1 : Key), e.2)) ≤ szDs (es.map (·.2))
  | [] => by simp [wt]
  | e :: es => by
    have := wt_es es
    simp only [wt, List.map_cons, List.sum_cons, szDs] at this ⊢
    omega
theorem th_sz {n : Nat} {d : PyData} (h : VG n d) : wt (thD d) ≤ szD d := by
  cases h with
  | plain h => rw [thD_plain (px_ok _ h).2.1]; simp [wt]
  | row _ _ =>
    rw [thD_row, sz_row]
    have := wt_enL
    exact Nat.le_trans (wt_enL _ _) (by omega)
  | tree _ _ _ _ =>
    rw [thD_tree, sz_tree]
    exact Nat.le_trans (wt_es _) (by omega)
theorem comes_sub (d : PyData) (s : Sp') : (comesD d s).Sublist (thD d) := by
  cases s with
  | fld w =>
    simp only [comesD]
    cases e : getD (thD d) (Sum.inr w) with
    | none => exact List.nil_sublist _
    | some v => exact List.singleton_sublist.mpr (getD_mem e)
  | num k =>
    simp only [comesD]
    cases e : getD (thD d) (Sum.inl (k : Int)) with
    | none => exact List.nil_sublist _
    | some v => exact List.singleton_sublist.mpr (getD_mem e)
  | each =>
    simp only [comesD]
    split
    · exact List.Sublist.refl _
    · exact List.nil_sublist _
  | whr w p =>
    simp only [comesD]
    split
    · exact List.filter_sublist
    · exact List.nil_sublist _
theorem comes_vg {n : Nat} {d : PyData} (h : VG n d) (s : Sp') : ∀ q ∈ comesD d s, VG n q.2 := fun q hq => (thD_vg h q ((comes_sub d s).subset hq)).1
def foundS (L : List (List Key × PyData)) (s : Sp') : List (List Key × PyData) := L.flatMap fun q => (comesD q.2 s).map fun r => (q.1 ++ [r.1], r.2)
def foundD (d : PyData) (ss : List Sp') : List (List Key × PyData) := ss.foldl foundS [([], d)]
theorem foundS_wt {n : Nat} : ∀ {L : List (List Key × PyData)} (s : Sp'), (∀ q ∈ L, VG n q.2) → wt (foundS L s) ≤ wt L
  | [], _, _ => by simp [foundS, wt]
  | q :: L, s, h => by
    have h1 := foundS_wt (L := L) s fun r hr => h r (List.mem_cons_of_mem _ hr)
    have hq := h q List.mem_cons_self
    have h2 : wt ((comesD q.2 s).map fun r => (q.1 ++ [r.1], r.2)) ≤ szD q.2 := by
      have : wt ((comesD q.2 s).map fun r => (q.1 ++ [r.1], r.2)) = wt (comesD q.2 s) := by
        unfold wt
        rw [List.map_map]
        rfl
      rw [this]
      exact Nat.le_trans (wt_sub (comes_sub _ _)) (th_sz hq)
    show wt ((comesD q.2 s).map (fun r => (q.1 ++ [r.1], r.2)) ++ foundS L s) ≤ _
    rw [wt_app]
    simp only [wt, List.map_cons, List.sum_cons] at h1 h2 ⊢
    omega
theorem foundS_vg {n : Nat} {L : List (List Key × PyData)} {s : Sp'} {m : Nat} (h : ∀ q ∈ L, VG n q.2 ∧ q.1.length ≤ m) : ∀ q ∈ foundS L s, VG n q.2 ∧ q.1.length ≤ m + 1 := fun q hq => by
  obtain ⟨p, hp, hq⟩ := List.mem_flatMap.mp hq
  obtain ⟨r, hr, rfl⟩ := List.mem_map.mp hq
  refine ⟨comes_vg (h p hp).1 s r hr, ?_⟩
  have := (h p hp).2
  simp
  omega
def flD (q : List Key × PyData) : PyData := .tuple [.tuple (q.1.map dK), q.2]
theorem tk_wt {α : Type} (L : List (α × PyData)) (i : Nat) : wt (L.take i) ≤ wt L := wt_sub (List.take_sublist _ _)
theorem foundS_snoc (L : List (List Key × PyData)) (q : List Key × PyData) (s : Sp') : foundS (L ++ [q]) s = foundS L s ++ (comesD q.2 s).map fun r => (q.1 ++ [r.1], r.2) := by
  simp [foundS, List.flatMap_append]
theorem foundin_eq {n : Nat} {d : PyData} {ss : List Sp'} {M : Sto} (h : VG n d) (hn : n ≤ 20) (hz : szD d ≤ 13000) (fl : Flat M) (hs : ∀ s ∈ ss, SpG s) (hl : ss.length ≤ 50) :
    F_foundin [.d d, .d (.tuple (ss.map spD))] M = .ok (.d (.tuple ((foundD d ss).map flD))) M := by
  refine get_ok ?_
  unfold F_foundin
  refine drop_on (fn_on rfl ?_)
  unfold B_foundin
  try simp only [onO_nx, onO_rt, onO_bad, onO_out, onO_ite, on_ite, onO_seq, onO_skip, onO_if, onO_ret, onO_set, onO_ex, onO_for, on_bindI, on_okI, on_badI, fCall, fCons, fNil, fPv, fC, fOp, fTest, fNotT, fAndT, fOrT, fAndV, fOrV, fNotV, fIf, fTup, fLst, fLstM, fSl, fPart, fNoP, fMethL, fNeg, fPut, fPar, fAsg, fYes, List.getElem?_cons_zero, List.getElem?_cons_succ, List.set_cons_zero, List.set_cons_succ, List.map_cons, List.map_nil, List.nil_append, List.cons_append, List.length_cons, List.length_nil, List.reduceReplicate, Nat.reduceSub, Nat.reduceAdd, Nat.zero_add, Bool.not_true, Bool.not_false, if_true, if_false, reduceIte, Bool.false_eq_true, reduceCtorEq, datas, Option.map_some, Option.bind_some, e_add, e_sub, e_lt, e_le, e_gt, e_ge, e_eqI, e_eqB, e_neI, e_neT, e_lenL, e_lenT, ixN43, ixN42, ixN41, ixN10, decide_true, decide_false, fiT, show (2 : Nat) ≤ sizeLine from by decide, show (1 : Nat) ≤ sizeLine from by decide, show (0 : Nat) ≤ sizeLine from by decide]
  refine for_on (fun i sd M1 => ∃ x, sd = [some (.d d), some (.d (.tuple (ss.map spD))), some (.d (.list ((foundD d (ss.take i)).map flD))), x, none, none, none, none] ∧ M = M1 ∧ (∀ q ∈ foundD d (ss.take i), VG n q.2 ∧ q.1.length ≤ i) ∧ wt (foundD d (ss.take i)) ≤ 13000) ?st ?fin
    ⟨none, rfl, rfl, ?_, ?_⟩
  case st =>
    rintro i it _ _ hi ⟨x, rfl, rfl, hv, hw⟩
    obtain ⟨e, he, rfl⟩ := its_at hi
    rw [List.getElem?_map] at he
    cases es : ss[i]? with
    | none => rw [es] at he; cases he
    | some s =>
      rw [es] at he
      cases he
      have hi50 : i < 50 := by have := (List.getElem?_eq_some_iff.mp es).1; omega
      have sg := hs s (List.mem_of_getElem? es)
      generalize hL : foundD d (ss.take i) = L at hv hw
      have eL : foundD d (ss.take (i + 1)) = foundS L s := by
        rw [← hL, foundD, take_succ_at es, List.foldl_append]
        rfl
      refine ⟨trivial, _, rfl, ?_⟩
      unfold B_foundin_1 fLc2 fiL
      try simp only [onO_nx, onO_rt, onO_bad, onO_out, onO_ite, on_ite, onO_seq, onO_skip, onO_if, onO_ret, onO_set, onO_ex, onO_for, on_bindI, on_okI, on_badI, fCall, fCons, fNil, fPv, fC, fOp, fTest, fNotT, fAndT, fOrT, fAndV, fOrV, fNotV, fIf, fTup, fLst, fLstM, fSl, fPart, fNoP, fMethL, fNeg, fPut, fPar, fAsg, fYes, List.getElem?_cons_zero, List.getElem?_cons_succ, List.set_cons_zero, List.set_cons_succ, List.map_cons, List.map_nil, List.nil_append, List.cons_append, List.length_cons, List.length_nil, List.reduceReplicate, Nat.reduceSub, Nat.reduceAdd, Nat.zero_add, Bool.not_true, Bool.not_false, if_true, if_false, reduceIte, Bool.false_eq_true, reduceCtorEq, datas, Option.map_some, Option.bind_some, e_add, e_sub, e_lt, e_le, e_gt, e_ge, e_eqI, e_eqB, e_neI, e_neT, e_lenL, e_lenT, ixN43, ixN42, ixN41, ixN10, decide_true, decide_false, wipeD]
      refine lc2_on (fun j M1 acc => M = M1 ∧ acc = (foundS (L.take j) s).map flD) ?st2 ?fin2 ⟨rfl, rfl⟩
      case st2 =>
        rintro j it _ _ hj ⟨rfl, rfl⟩
        obtain ⟨e, he, rfl⟩ := its_at hj
        rw [List.getElem?_map] at he
        cases eq : L[j]? with
        | none => rw [eq] at he; cases he
        | some q =>
          rw [eq] at he
          cases he
          have hq := hv q (List.mem_of_getElem? eq)
          refine ⟨trivial, _, rfl, ?_⟩
          try simp only [onO_nx, onO_rt, onO_bad, onO_out, onO_ite, on_ite, onO_seq, onO_skip, onO_if, onO_ret, onO_set, onO_ex, onO_for, on_bindI, on_okI, on_badI, fCall, fCons, fNil, fPv, fC, fOp, fTest, fNotT, fAndT, fOrT, fAndV, fOrV, fNotV, fIf, fTup, fLst, fLstM, fSl, fPart, fNoP, fMethL, fNeg, fPut, fPar, fAsg, fYes, List.getElem?_cons_zero, List.getElem?_cons_succ, List.set_cons_zero, List.set_cons_succ, List.map_cons, List.map_nil, List.nil_append, List.cons_append, List.length_cons, List.length_nil, List.reduceReplicate, Nat.reduceSub, Nat.reduceAdd, Nat.zero_add, Bool.not_true, Bool.not_false, if_true, if_false, reduceIte, Bool.false_eq_true, reduceCtorEq, datas, Option.map_some, Option.bind_some, e_add, e_sub, e_lt, e_le, e_gt, e_ge, e_eqI, e_eqB, e_neI, e_neT, e_lenL, e_lenT, ixN43, ixN42, ixN41, ixN10, decide_true, decide_false, comesby_eq hq.1 hn fl sg]
          have cb : (comesD q.2 s).length ≤ 30 := Nat.le_trans (comes_sub _ _).length_le (thD_len hq.1)
          have fb : (foundS (L.take j) s).length ≤ 65 := by
            have hv' : ∀ r ∈ L.take j, VG n r.2 := fun r hr => (hv r (List.mem_of_mem_take hr)).1
            have a1 := foundS_wt s hv'
            have a2 := tk_wt L j
            have a3 := wt_len (n := n) (L := foundS (L.take j) s) fun r hr => (foundS_vg (m := i) (fun p hp => hv p (List.mem_of_mem_take hp)) r hr).1
            omega
          refine lc_on (fun k M1 acc => M = M1 ∧ acc = (foundS (L.take j) s ++ ((comesD q.2 s).take k).map fun r => (q.1 ++ [r.1], r.2)).map flD) ?st3 ?fin3 ⟨rfl, by simp⟩
          case st3 =>
            rintro k it _ _ hk ⟨rfl, rfl⟩
            obtain ⟨e, he, rfl⟩ := its_at hk
            rw [List.getElem?_map] at he
            cases er : (comesD q.2 s)[k]? with
            | none => rw [er] at he; cases he
            | some r =>
              rw [er] at he
              cases he
              refine ⟨trivial, _, rfl, ?_⟩
              try simp only [onO_nx, onO_rt, onO_bad, onO_out, onO_ite, on_ite, onO_seq, onO_skip, onO_if, onO_ret, onO_set, onO_ex, onO_for, on_bindI, on_okI, on_badI, fCall, fCons, fNil, fPv, fC, fOp, fTest, fNotT, fAndT, fOrT, fAndV, fOrV, fNotV, fIf, fTup, fLst, fLstM, fSl, fPart, fNoP, fMethL, fNeg, fPut, fPar, fAsg, fYes, List.getElem?_cons_zero, List.getElem?_cons_succ, List.set_cons_zero, List.set_cons_succ, List.map_cons, List.map_nil, List.nil_append, List.cons_append, List.length_cons, List.length_nil, List.reduceReplicate, Nat.reduceSub, Nat.reduceAdd, Nat.zero_add, Bool.not_true, Bool.not_false, if_true, if_false, reduceIte, Bool.false_eq_true, reduceCtorEq, datas, Option.map_some, Option.bind_some, e_add, e_sub, e_lt, e_le, e_gt, e_ge, e_eqI, e_eqB, e_neI, e_neT, e_lenL, e_lenT, ixN43, ixN42, ixN41, ixN10, decide_true, decide_false, wipeD, show (1 : Nat) ≤ sizeLine from by decide, show (2 : Nat) ≤ sizeLine from by decide, oCatT]
              rw [if_pos (Nat.le_trans (show (q.1.map dK).length + 1 ≤ 100 by rw [List.length_map]; omega) (by decide))]
              try simp only [onO_nx, onO_rt, onO_bad, onO_out, onO_ite, on_ite, onO_seq, onO_skip, onO_if, onO_ret, onO_set, onO_ex, onO_for, on_bindI, on_okI, on_badI, fCall, fCons, fNil, fPv, fC, fOp, fTest, fNotT, fAndT, fOrT, fAndV, fOrV, fNotV, fIf, fTup, fLst, fLstM, fSl, fPart, fNoP, fMethL, fNeg, fPut, fPar, fAsg, fYes, List.getElem?_cons_zero, List.getElem?_cons_succ, List.set_cons_zero, List.set_cons_succ, List.map_cons, List.map_nil, List.nil_append, List.cons_append, List.length_cons, List.length_nil, List.reduceReplicate, Nat.reduceSub, Nat.reduceAdd, Nat.zero_add, Bool.not_true, Bool.not_false, if_true, if_false, reduceIte, Bool.false_eq_true, reduceCtorEq, datas, Option.map_some, Option.bind_some, e_add, e_sub, e_lt, e_le, e_gt, e_ge, e_eqI, e_eqB, e_neI, e_neT, e_lenL, e_lenT, ixN43, ixN42, ixN41, ixN10, decide_true, decide_false, show (2 : Nat) ≤ sizeLine from by decide]
              refine ⟨_, rfl, ?_, trivial, ?_⟩
              · rw [List.length_map, List.length_append, List.length_map, List.length_take]
                exact Nat.lt_of_le_of_lt (show _ ≤ 100 by omega) (by decide)
              · rw [take_succ_at er, List.map_append, List.map_append, List.map_append, List.map_append, List.append_assoc]
                congr 2
                simp [flD]
          case fin3 =>
            rintro _ _ ⟨rfl, rfl⟩
            rw [List.length_map, List.length_map, List.length_map, List.take_length]
            refine ⟨trivial, rfl, ?_⟩
            rw [take_succ_at eq, foundS_snoc]
      case fin2 =>
        rintro _ _ ⟨rfl, rfl⟩
        rw [List.length_map, List.length_map, List.length_map, List.take_length]
        refine ⟨trivial, ?_⟩
        try simp only [onO_nx, onO_rt, onO_bad, onO_out, onO_ite, on_ite, onO_seq, onO_skip, onO_if, onO_ret, onO_set, onO_ex, onO_for, on_bindI, on_okI, on_badI, fCall, fCons, fNil, fPv, fC, fOp, fTest, fNotT, fAndT, fOrT, fAndV, fOrV, fNotV, fIf, fTup, fLst, fLstM, fSl, fPart, fNoP, fMethL, fNeg, fPut, fPar, fAsg, fYes, List.getElem?_cons_zero, List.getElem?_cons_succ, List.set_cons_zero, List.set_cons_succ, List.map_cons, List.map_nil, List.nil_append, List.cons_append, List.length_cons, List.length_nil, List.reduceReplicate, Nat.reduceSub, Nat.reduceAdd, Nat.zero_add, Bool.not_true, Bool.not_false, if_true, if_false, reduceIte, Bool.false_eq_true, reduceCtorEq, datas, Option.map_some, Option.bind_some, e_add, e_sub, e_lt, e_le, e_gt, e_ge, e_eqI, e_eqB, e_neI, e_neT, e_lenL, e_lenT, ixN43, ixN42, ixN41, ixN10, decide_true, decide_false]
        rw [eL]
        exact ⟨_, rfl, trivial, foundS_vg hv, Nat.le_trans (foundS_wt s fun q hq => (hv q hq).1) hw⟩
  case fin =>
    rintro _ _ ⟨x, rfl, rfl, hv, hw⟩
    rw [List.length_map, List.length_map, List.length_map, List.take_length]
    refine ⟨trivial, ?_⟩
    try simp only [onO_nx, onO_rt, onO_bad, onO_out, onO_ite, on_ite, onO_seq, onO_skip, onO_if, onO_ret, onO_set, onO_ex, onO_for, on_bindI, on_okI, on_badI, fCall, fCons, fNil, fPv, fC, fOp, fTest, fNotT, fAndT, fOrT, fAndV, fOrV, fNotV, fIf, fTup, fLst, fLstM, fSl, fPart, fNoP, fMethL, fNeg, fPut, fPar, fAsg, fYes, List.getElem?_cons_zero, List.getElem?_cons_succ, List.set_cons_zero, List.set_cons_succ, List.map_cons, List.map_nil, List.nil_append, List.cons_append, List.length_cons, List.length_nil, List.reduceReplicate, Nat.reduceSub, Nat.reduceAdd, Nat.zero_add, Bool.not_true, Bool.not_false, if_true, if_false, reduceIte, Bool.false_eq_true, reduceCtorEq, datas, Option.map_some, Option.bind_some, e_add, e_sub, e_lt, e_le, e_gt, e_ge, e_eqI, e_eqB, e_neI, e_neT, e_lenL, e_lenT, ixN43, ixN42, ixN41, ixN10, decide_true, decide_false, oTuple, lsv, datas_d]
    exact fin_same fl ⟨rfl, rfl⟩
  · intro q hq
    rw [List.mem_singleton.mp hq]
    exact ⟨h, by simp⟩
  · show wt [(([] : List Key), d)] ≤ 13000
    simp only [wt, List.map_cons, List.map_nil, List.sum_cons, List.sum_nil]
    omega
/-! ### value_at -/
def valAt (d : PyData) (ks : List Key) : Option PyData := ks.foldl (fun o k => o.bind fun e => getD (thD e) k) (some d)
theorem val_none : ∀ ks : List Key, ks.foldl (fun o k => o.bind fun e => getD (thD e) k) (none : Option PyData) = none
  | [] => rfl
  | _ :: ks => val_none ks
theorem val_snoc (d : PyData) (ks : List Key) (k : Key) : valAt d (ks ++ [k]) = (valAt d ks).bind fun e => getD (thD e) k := by
  unfold valAt
  rw [List.foldl_append]
  rfl
theorem val_cut {d : PyData} {ks : List Key} {i : Nat} (h : valAt d (ks.take i) = none) : valAt d ks = none := by
  rw [← List.take_append_drop i ks]
  unfold valAt at h ⊢
  rw [List.foldl_append, h, val_none]
theorem key_dK (k : Key) : keyD (dK k) = some k := by cases k <;> rfl
theorem valueat_eq {n : Nat} {d : PyData} {ks : List Key} {M : Sto} (h : VG n d) (fl : Flat M) : F_valueat [.d d, .d (.tuple (ks.map dK))] M = .ok (.d ((valAt d ks).getD .none)) M := by
  refine get_ok ?_
  unfold F_valueat
  refine drop_on (fn_on rfl ?_)
  unfold B_valueat
  try simp only [onO_nx, onO_rt, onO_bad, onO_out, onO_ite, on_ite, onO_seq, onO_skip, onO_if, onO_ret, onO_set, onO_ex, onO_for, on_bindI, on_okI, on_badI, fCall, fCons, fNil, fPv, fC, fOp, fTest, fNotT, fAndT, fOrT, fAndV, fOrV, fNotV, fIf, fTup, fLst, fLstM, fSl, fPart, fNoP, fMethL, fNeg, fPut, fPar, fAsg, fYes, List.getElem?_cons_zero, List.getElem?_cons_succ, List.set_cons_zero, List.set_cons_succ, List.map_cons, List.map_nil, List.nil_append, List.cons_append, List.length_cons, List.length_nil, List.reduceReplicate, Nat.reduceSub, Nat.reduceAdd, Nat.zero_add, Bool.not_true, Bool.not_false, if_true, if_false, reduceIte, Bool.false_eq_true, reduceCtorEq, datas, Option.map_some, Option.bind_some, e_add, e_sub, e_lt, e_le, e_gt, e_ge, e_eqI, e_eqB, e_neI, e_neT, e_lenL, e_lenT, ixN43, ixN42, ixN41, ixN10, decide_true, decide_false, fiT]
  refine for_on (fun i sd M1 => ∃ x y cur more, sd = [some (.d cur), some (.d (.tuple (ks.map dK))), x, y] ∧ M1 = M ++ more ∧ Flat M1 ∧ VG n cur ∧ valAt d (ks.take i) = some cur) ?st ?fin ⟨none, none, d, [], rfl, by simp, fl, h, rfl⟩
  case st =>
    rintro i it _ _ hi ⟨x, y, cur, more, rfl, rfl, fl1, vc, ev⟩
    obtain ⟨e, he, rfl⟩ := its_at hi
    rw [List.getElem?_map] at he
    cases ek : ks[i]? with
    | none => rw [ek] at he; cases he
    | some k =>
      rw [ek] at he
      cases he
      refine ⟨trivial, _, rfl, ?_⟩
      unfold B_valueat_1
      try simp only [onO_nx, onO_rt, onO_bad, onO_out, onO_ite, on_ite, onO_seq, onO_skip, onO_if, onO_ret, onO_set, onO_ex, onO_for, on_bindI, on_okI, on_badI, fCall, fCons, fNil, fPv, fC, fOp, fTest, fNotT, fAndT, fOrT, fAndV, fOrV, fNotV, fIf, fTup, fLst, fLstM, fSl, fPart, fNoP, fMethL, fNeg, fPut, fPar, fAsg, fYes, List.getElem?_cons_zero, List.getElem?_cons_succ, List.set_cons_zero, List.set_cons_succ, List.map_cons, List.map_nil, List.nil_append, List.cons_append, List.length_cons, List.length_nil, List.reduceReplicate, Nat.reduceSub, Nat.reduceAdd, Nat.zero_add, Bool.not_true, Bool.not_false, if_true, if_false, reduceIte, Bool.false_eq_true, reduceCtorEq, datas, Option.map_some, Option.bind_some, e_add, e_sub, e_lt, e_le, e_gt, e_ge, e_eqI, e_eqB, e_neI, e_neT, e_lenL, e_lenT, ixN43, ixN42, ixN41, ixN10, decide_true, decide_false, things_on vc fl1]
      have fl2 : Flat (M ++ more ++ [.dct (kvW (thD cur))]) := fl1.app (kv_fl _)
      have ev2 : valAt d (ks.take (i + 1)) = getD (thD cur) k := by rw [take_succ_at ek, val_snoc, ev]; rfl
      simp only [oDIn, dctW, at_new, key_dK, getW_kv]
      cases eg : getD (thD cur) k with
      | none =>
        try simp only [onO_nx, onO_rt, onO_bad, onO_out, onO_ite, on_ite, onO_seq, onO_skip, onO_if, onO_ret, onO_set, onO_ex, onO_for, on_bindI, on_okI, on_badI, fCall, fCons, fNil, fPv, fC, fOp, fTest, fNotT, fAndT, fOrT, fAndV, fOrV, fNotV, fIf, fTup, fLst, fLstM, fSl, fPart, fNoP, fMethL, fNeg, fPut, fPar, fAsg, fYes, List.getElem?_cons_zero, List.getElem?_cons_succ, List.set_cons_zero, List.set_cons_succ, List.map_cons, List.map_nil, List.nil_append, List.cons_append, List.length_cons, List.length_nil, List.reduceReplicate, Nat.reduceSub, Nat.reduceAdd, Nat.zero_add, Bool.not_true, Bool.not_false, if_true, if_false, reduceIte, Bool.false_eq_true, reduceCtorEq, datas, Option.map_some, Option.bind_some, e_add, e_sub, e_lt, e_le, e_gt, e_ge, e_eqI, e_eqB, e_neI, e_neT, e_lenL, e_lenT, ixN43, ixN42, ixN41, ixN10, decide_true, decide_false, Option.map_none, Option.isSome_none]
        refine fin_more (more := more ++ [.dct (kvW (thD cur))]) (by simp) fl2 ⟨?_, rfl⟩
        rw [val_cut (i := i + 1) (by rw [ev2, eg])]
        rfl
      | some v =>
        try simp only [onO_nx, onO_rt, onO_bad, onO_out, onO_ite, on_ite, onO_seq, onO_skip, onO_if, onO_ret, onO_set, onO_ex, onO_for, on_bindI, on_okI, on_badI, fCall, fCons, fNil, fPv, fC, fOp, fTest, fNotT, fAndT, fOrT, fAndV, fOrV, fNotV, fIf, fTup, fLst, fLstM, fSl, fPart, fNoP, fMethL, fNeg, fPut, fPar, fAsg, fYes, List.getElem?_cons_zero, List.getElem?_cons_succ, List.set_cons_zero, List.set_cons_succ, List.map_cons, List.map_nil, List.nil_append, List.cons_append, List.length_cons, List.length_nil, List.reduceReplicate, Nat.reduceSub, Nat.reduceAdd, Nat.zero_add, Bool.not_true, Bool.not_false, if_true, if_false, reduceIte, Bool.false_eq_true, reduceCtorEq, datas, Option.map_some, Option.bind_some, e_add, e_sub, e_lt, e_le, e_gt, e_ge, e_eqI, e_eqB, e_neI, e_neT, e_lenL, e_lenT, ixN43, ixN42, ixN41, ixN10, decide_true, decide_false, Option.map_some, Option.isSome_some]
        simp only [oDGet, dctW, at_new, key_dK, getW_kv, Option.bind_some, eg, Option.map_some]
        try simp only [onO_nx, onO_rt, onO_bad, onO_out, onO_ite, on_ite, onO_seq, onO_skip, onO_if, onO_ret, onO_set, onO_ex, onO_for, on_bindI, on_okI, on_badI, fCall, fCons, fNil, fPv, fC, fOp, fTest, fNotT, fAndT, fOrT, fAndV, fOrV, fNotV, fIf, fTup, fLst, fLstM, fSl, fPart, fNoP, fMethL, fNeg, fPut, fPar, fAsg, fYes, List.getElem?_cons_zero, List.getElem?_cons_succ, List.set_cons_zero, List.set_cons_succ, List.map_cons, List.map_nil, List.nil_append, List.cons_append, List.length_cons, List.length_nil, List.reduceReplicate, Nat.reduceSub, Nat.reduceAdd, Nat.zero_add, Bool.not_true, Bool.not_false, if_true, if_false, reduceIte, Bool.false_eq_true, reduceCtorEq, datas, Option.map_some, Option.bind_some, e_add, e_sub, e_lt, e_le, e_gt, e_ge, e_eqI, e_eqB, e_neI, e_neT, e_lenL, e_lenT, ixN43, ixN42, ixN41, ixN10, decide_true, decide_false]
        exact ⟨_, _, v, more ++ [.dct (kvW (thD cur))], rfl, by simp, fl2, (thD_vg vc _ (getD_mem eg)).1, by rw [ev2, eg]⟩
  case fin =>
    rintro _ _ ⟨x, y, cur, more, rfl, rfl, fl1, vc, ev⟩
    rw [List.length_map, List.length_map, List.length_map, List.take_length] at ev
    refine ⟨trivial, ?_⟩
    try simp only [onO_nx, onO_rt, onO_bad, onO_out, onO_ite, on_ite, onO_seq, onO_skip, onO_if, onO_ret, onO_set, onO_ex, onO_for, on_bindI, on_okI, on_badI, fCall, fCons, fNil, fPv, fC, fOp, fTest, fNotT, fAndT, fOrT, fAndV, fOrV, fNotV, fIf, fTup, fLst, fLstM, fSl, fPart, fNoP, fMethL, fNeg, fPut, fPar, fAsg, fYes, List.getElem?_cons_zero, List.getElem?_cons_succ, List.set_cons_zero, List.set_cons_succ, List.map_cons, List.map_nil, List.nil_append, List.cons_append, List.length_cons, List.length_nil, List.reduceReplicate, Nat.reduceSub, Nat.reduceAdd, Nat.zero_add, Bool.not_true, Bool.not_false, if_true, if_false, reduceIte, Bool.false_eq_true, reduceCtorEq, datas, Option.map_some, Option.bind_some, e_add, e_sub, e_lt, e_le, e_gt, e_ge, e_eqI, e_eqB, e_neI, e_neT, e_lenL, e_lenT, ixN43, ixN42, ixN41, ixN10, decide_true, decide_false]
    exact fin_more rfl fl1 ⟨by rw [ev]; rfl, rfl⟩
end Fu

set_option Elab.async false
set_option linter.all false
set_option maxRecDepth 100000
set_option maxHeartbeats 1000000
/-! What repr tells; this law's own going. -/
namespace Fu
open PySem PySem.Spec PyProof.Rows L2 Dat LamX PySem.W
theorem join_le (ts : List Str) : (Str.join ", " ts).length ≤ piled ts := by
  by_cases h : ts = []
  · subst h
    exact Nat.le_refl _
  · have := join_length_add ts h
    omega
theorem tup_le (ts : List Str) : (tupleText ts).length ≤ piled ts + 3 := by
  unfold tupleText
  rw [strLen_append, strLen_append]
  have e1 : ((("(" : String) : Str)).length = 1 := rfl
  have e3 : (((if ts.length == 1 then ",)" else ")" : String) : Str)).length ≤ 2 := by split <;> decide
  have := join_le ts
  rw [e1]
  omega
mutual
theorem shown_le : ∀ d : PyData, okD d = true → d.shown.length ≤ szD d
  | .none, h => by simp [okD] at h
  | .bool b, _ => by cases b <;> simp only [PyData.shown, szD] <;> decide
  | .int i, h => by
    have h' : i.natAbs < 2 ^ 140 := by simpa [okD] using h
    have hl : i.natAbs.log2 < 140 := by
      by_cases z : i.natAbs = 0
      · rw [z]
        decide
      · exact (Nat.log2_lt z).mpr h'
    have := PySem.int_text_length_le (a := i) (by decide : 0 < 140) hl
    show (Str.ofString (toString i)).length ≤ 200
    rw [PySem.ofString_length]
    omega
  | .str x, h => by
    have h' : (PyData.strOk x && decide (x.length ≤ 16)) = true := by simpa [okD] using h
    rw [Bool.and_eq_true, decide_eq_true_eq] at h'
    have := StrLaws.reprText_len x (by
      intro c hc
      have h1 : x.cps.all (· < 0x110000) = true := h'.1
      have h2 := (Array.all_eq_true_iff_forall_mem.mp h1) c (Array.mem_toList_iff.mp hc)
      have h3 : c < 0x110000 := by simpa using h2
      exact Nat.lt_trans h3 (by decide))
    simp only [PyData.shown, szD]
    omega
  | .list _, h => by simp [okD] at h
  | .dict _, h => by simp [okD] at h
  | .tuple xs, h => by
    have h' : (decide (xs.length ≤ 100) && okDs xs) = true := by simpa [okD] using h
    rw [Bool.and_eq_true] at h'
    have h1 := shownAll_le xs h'.2
    have h2 := tup_le (PyData.shownAll xs)
    simp only [PyData.shown, szD]
    omega
theorem shownAll_le : ∀ ds : List PyData, okDs ds = true → piled (PyData.shownAll ds) ≤ szDs ds
  | [], _ => by simp [PyData.shownAll, szDs, piled]
  | d :: ds, h => by
    have h' : okD d = true ∧ okDs ds = true := by simpa [okDs] using h
    have h1 := shown_le d h'.1
    have h2 := shownAll_le ds h'.2
    simp only [PyData.shownAll, szDs, piled_cons]
    omega
end
mutual
theorem showable_ok : ∀ d : PyData, okD d = true → d.showable = true
  | .none, h => by simp [okD] at h
  | .bool b, _ => by simp [PyData.showable]
  | .int i, h => by
    have h' : i.natAbs < 2 ^ 140 := by simpa [okD] using h
    have hl : i.natAbs.log2 < 1920 := by
      by_cases z : i.natAbs = 0
      · rw [z]
        decide
      · exact Nat.lt_trans ((Nat.log2_lt z).mpr h') (by decide)
    simpa [PyData.showable] using hl
  | .str x, h => by simp [PyData.showable]
  | .list _, h => by simp [okD] at h
  | .dict _, h => by simp [okD] at h
  | .tuple xs, h => by
    have h' : (decide (xs.length ≤ 100) && okDs xs) = true := by simpa [okD] using h
    rw [Bool.and_eq_true] at h'
    simpa [PyData.showable] using showables_ok xs h'.2
theorem showables_ok : ∀ ds : List PyData, okDs ds = true → PyData.showableAll ds = true
  | [], _ => by simp [PyData.showableAll]
  | d :: ds, h => by
    have h' : okD d = true ∧ okDs ds = true := by simpa [okDs] using h
    simp [PyData.showableAll, showable_ok d h'.1, showables_ok ds h'.2]
end
theorem repr_eq {d : PyData} {M : Sto} (h : okD d = true) (hd : d.depth ≤ 60) (hz : szD d ≤ 1000000) : oRepr [.d d] M = .ok (.d (.str d.shown)) M := by
  have h1 : (d.showable && decide (d.depth ≤ 60) && decide (d.shown.length ≤ sizeLine)) = true := by
    rw [showable_ok d h, decide_eq_true hd, decide_eq_true (Nat.le_trans (Nat.le_trans (shown_le d h) hz) (by decide))]
    rfl
  simp only [oRepr, dataOf, h1, if_true]
/-! ### which texts are the same -/
def tx (x : Str) : List Nat := x.cps.toList
theorem tx_app (a b : Str) : tx (a ++ b) = tx a ++ tx b := Array.toList_append
theorem tx_inj {a b : Str} (h : tx a = tx b) : a = b := str_ext h
theorem tx_two (a b : PyData) : tx (PyData.tuple [a, b]).shown = tx "(" ++ ((tx a.shown ++ tx ", ") ++ tx b.shown) ++ tx ")" := by
  show tx ((("(" : Str) ++ ((a.shown ++ (", " : Str)) ++ b.shown)) ++ (")" : Str)) = _
  rw [tx_app, tx_app, tx_app, tx_app]
def hw (w : Str) : List Nat := tx (PyData.str w).shown ++ tx ", "
theorem hw_cmp : ∀ w ∈ WQ, ∀ v ∈ WQ, w = v ∨ ((hw w).isPrefixOf (hw v) = false ∧ (hw v).isPrefixOf (hw w) = false) := by decide +kernel
theorem pl_cmp : ∀ p ∈ PL, ∀ v ∈ PX, decide (tx v.shown = tx p.shown) = lkP v p := by decide +kernel
theorem pl_head : ∀ p ∈ PL, (tx p.shown).head? ≠ some 40 := by decide +kernel
theorem wl_wq : ∀ w ∈ WL, w ∈ WQ := by decide +kernel
theorem tup_head (ds : List PyData) : (tx (PyData.tuple ds).shown).head? = some 40 := by
  have : (PyData.tuple ds).shown = tupleText (PyData.shownAll ds) := by simp only [PyData.shown]
  rw [this]
  unfold tupleText
  rw [tx_app, tx_app]
  rfl
theorem shown_cmp {n : Nat} {w x : Str} {v p : PyData} (hx : x ∈ WL) (hw' : w ∈ WQ) (hv : VG n v) (hp : p ∈ PL) : decide ((PyData.tuple [.str x, v]).shown = (PyData.tuple [.str w, p]).shown) = (decide (x = w) && lkP v p) := by
  have e1 : ((PyData.tuple [.str x, v]).shown = (PyData.tuple [.str w, p]).shown) ↔ (x = w ∧ tx v.shown = tx p.shown) := by
    constructor
    · intro h
      have h := congrArg tx h
      rw [tx_two, tx_two] at h
      have h := List.append_cancel_right h
      have h := List.append_cancel_left h
      change hw x ++ _ = hw w ++ _ at h
      rcases hw_cmp x (wl_wq x hx) w hw' with z | ⟨z1, z2⟩
      · subst z
        exact ⟨rfl, List.append_cancel_left h⟩
      · rcases List.append_eq_append_iff.mp h with ⟨as, q, _⟩ | ⟨bs, q, _⟩
        · have : (hw x).isPrefixOf (hw w) = true := List.isPrefixOf_iff_prefix.mpr ⟨as, q.symm⟩
          rw [z1] at this
          cases this
        · have : (hw w).isPrefixOf (hw x) = true := List.isPrefixOf_iff_prefix.mpr ⟨bs, q.symm⟩
          rw [z2] at this
          cases this
    · rintro ⟨rfl, h⟩
      rw [PyData.shown, PyData.shown]
      simp only [PyData.shownAll, tx_inj h]
  have e2 : decide (tx v.shown = tx p.shown) = lkP v p := by
    have tup : ∀ ds : List PyData, decide (tx (PyData.tuple ds).shown = tx p.shown) = lkP (.tuple ds) p := fun ds => by
      have a : tx (PyData.tuple ds).shown ≠ tx p.shown := fun z => pl_head p hp (by rw [← z]; exact tup_head ds)
      have b : lkP (.tuple ds) p = false := by
        have tp := (pl_ok p hp).2.1
        unfold lkP
        cases p <;> simp_all [isB, isT, PyData.eqv]
      rw [b]
      exact decide_eq_false a
    cases hv with
    | plain h => exact pl_cmp p hp v h
    | row _ _ => exact tup _
    | tree _ _ _ _ => exact tup _
  rw [← e2, ← Bool.decide_and]
  exact decide_eq_decide.mpr e1
end Fu

set_option Elab.async false
set_option linter.all false
set_option maxRecDepth 100000
set_option maxHeartbeats 1000000
/-! This law's own going. -/
namespace Fu
open PySem PySem.Spec PyProof.Rows L2 Dat LamX PySem.W
theorem enD_map : ∀ (ds : List PyData) (i : Nat), enD i ds = (enL i ds).map prD
  | [], _ => rfl
  | d :: ds, i => by rw [enD, enD_map ds]; rfl
theorem enL_at : ∀ (ds : List PyData) (i k : Nat), (enL i ds)[k]? = ds[k]?.map fun d => (Sum.inl ((i + k : Nat) : Int), d)
  | [], _, _ => by simp [enL]
  | d :: ds, i, 0 => by simp [enL]
  | d :: ds, i, k + 1 => by
    rw [enL, List.getElem?_cons_succ, enL_at ds, List.getElem?_cons_succ]
    congr 2
    funext d
    congr 2
    omega
theorem getD_nodup {ths : List (Key × PyData)} (hn : (ths.map (·.1)).Nodup) {k : Key} {e : PyData} (h : (k, e) ∈ ths) : getD ths k = some e := by
  unfold getD
  induction ths with
  | nil => cases h
  | cons q ths ih =>
    rw [List.map_cons, List.nodup_cons] at hn
    rw [List.find?_cons]
    rcases List.mem_cons.mp h with z | z
    · rw [← z]
      simp
    · have : q.1 ≠ k := fun w => hn.1 (List.mem_map.mpr ⟨_, z, w.symm⟩)
      simp only [this, decide_false]
      exact ih hn.2 z
theorem getD_none {ths : List (Key × PyData)} {k : Key} (h : ∀ q ∈ ths, q.1 ≠ k) : getD ths k = none := by
  unfold getD
  rw [List.find?_eq_none.mpr fun q hq z => h q hq (of_decide_eq_true z)]
  rfl
theorem getD_row (ds : List PyData) (k : Nat) : getD (enL 0 ds) (Sum.inl (k : Int)) = ds[k]? := by
  cases e : ds[k]? with
  | some v =>
    refine getD_nodup (enL_nodup ds 0) ?_
    have := enL_at ds 0 k
    rw [e, Nat.zero_add] at this
    exact List.mem_of_getElem? this
  | none =>
    refine getD_none fun q hq z => ?_
    obtain ⟨j, _, h2, h3, h4⟩ := enL_keys ds 0 q hq
    rw [h3] at z
    have : j = k := by have := Sum.inl.inj z; omega
    subst this
    rw [Nat.sub_zero, e] at h4
    cases h4
theorem getD_row_str (ds : List PyData) (w : Str) : getD (enL 0 ds) (Sum.inr w) = none := getD_none fun q hq z => by
  obtain ⟨j, _, _, h3, _⟩ := enL_keys ds 0 q hq
  rw [h3] at z
  cases z
theorem getD_tree_int (es : List (Str × PyData)) (k : Int) : getD (es.map fun e : Str × PyData => ((Sum.inr e.1 : Key), e.2)) (Sum.inl k) = none := getD_none fun q hq z => by
  obtain ⟨e, _, rfl⟩ := List.mem_map.mp hq
  cases z
theorem filt_one {w : Str} : ∀ {es : List (Str × PyData)}, (es.map (·.1)).Nodup → (es.filter fun e => decide (e.1 = w)).map pairD = (match getD (es.map fun e : Str × PyData => ((Sum.inr e.1 : Key), e.2)) (Sum.inr w) with
    | some e => [((Sum.inr w : Key), e)]
    | none => []).map prD
  | [], _ => rfl
  | e :: es, h => by
    rw [List.map_cons, List.nodup_cons] at h
    by_cases z : e.1 = w
    · have hf : es.filter (fun e => decide (e.1 = w)) = [] := by
        rw [List.filter_eq_nil_iff]
        intro x hx q
        exact h.1 (List.mem_map.mpr ⟨x, hx, (of_decide_eq_true q).trans z.symm⟩)
      rw [List.filter_cons_of_pos (by simp [z]), hf]
      simp [getD, z, pairD, prD, dK]
    · rw [List.filter_cons_of_neg (by simp [z]), filt_one h.2]
      have : getD ((e :: es).map fun e : Str × PyData => ((Sum.inr e.1 : Key), e.2)) (Sum.inr w) = getD (es.map fun e : Str × PyData => ((Sum.inr e.1 : Key), e.2)) (Sum.inr w) := by
        simp [getD, z]
      rw [this]
theorem szDs_mem {x : PyData} : ∀ {xs : List PyData}, x ∈ xs → szD x ≤ szDs xs
  | y :: xs, h => by
    rw [szDs]
    rcases List.mem_cons.mp h with z | z
    · rw [z]; omega
    · have := szDs_mem z; omega
theorem fl_all (xs : List Str) : (xs.map PyData.str).all flatD = true := by
  rw [List.all_eq_true]
  intro d hd
  obtain ⟨x, _, rfl⟩ := List.mem_map.mp hd
  rfl
theorem in_strs (x : Str) (xs : List Str) : inD (.str x) (xs.map PyData.str) = xs.any fun y => decide (y = x) := by
  unfold inD
  rw [List.any_map]
  have e : ((fun y => PyData.eqv y (.str x)) ∘ PyData.str) = fun y => decide (y = x) := by
    funext y
    exact eqv_str y x
  rw [e]
theorem any_lk {n : Nat} {w : Str} {p : PyData} (hw' : w ∈ WQ) (hp : p ∈ PL) : ∀ {es : List (Str × PyData)}, (∀ e ∈ es, e.1 ∈ WL) → (es.map (·.1)).Nodup → (∀ e ∈ es, VG n e.2) →
    (es.any fun e => decide ((pairD e).shown = (PyData.tuple [.str w, p]).shown)) = (match getD (es.map fun e : Str × PyData => ((Sum.inr e.1 : Key), e.2)) (Sum.inr w) with
      | some e => lkP e p
      | none => false)
  | [], _, _, _ => rfl
  | e :: es, h1, h2, h3 => by
    rw [List.map_cons, List.nodup_cons] at h2
    have ih := any_lk hw' hp (es := es) (fun x hx => h1 x (List.mem_cons_of_mem _ hx)) h2.2 fun x hx => h3 x (List.mem_cons_of_mem _ hx)
    rw [List.any_cons, ih]
    have c := shown_cmp (h1 e List.mem_cons_self) hw' (h3 e List.mem_cons_self) hp
    show (decide ((PyData.tuple [.str e.1, e.2]).shown = _) || _) = _
    rw [c]
    by_cases z : e.1 = w
    · have g0 : getD (es.map fun e : Str × PyData => ((Sum.inr e.1 : Key), e.2)) (Sum.inr w) = none := getD_none fun q hq y => by
        obtain ⟨x, hx, rfl⟩ := List.mem_map.mp hq
        exact h2.1 (List.mem_map.mpr ⟨x, hx, (Sum.inr.inj y).trans z.symm⟩)
      have g1 : getD ((e :: es).map fun e : Str × PyData => ((Sum.inr e.1 : Key), e.2)) (Sum.inr w) = some e.2 := by simp [getD, z]
      rw [g0, g1]
      simp [z]
    · have g1 : getD ((e :: es).map fun e : Str × PyData => ((Sum.inr e.1 : Key), e.2)) (Sum.inr w) = getD (es.map fun e : Str × PyData => ((Sum.inr e.1 : Key), e.2)) (Sum.inr w) := by simp [getD, z]
      rw [g1]
      simp [z]
theorem cut_one {α : Type} (xs : List α) (k : Nat) : cutL xs (some (k : Int)) (some ((k : Int) + 1)) = match xs[k]? with
    | some x => [x]
    | none => [] := by
  unfold cutL
  rw [show HT.sIx xs.length 0 (some (k : Int)) = min k xs.length from HT.sIx_nat _ _ k, show HT.sIx xs.length xs.length (some ((k : Int) + 1)) = min (k + 1) xs.length from HT.sIx_nat _ _ (k + 1)]
  by_cases h : k < xs.length
  · rw [Nat.min_eq_left (by omega), Nat.min_eq_left (by omega), List.getElem?_eq_getElem h, List.drop_eq_getElem_cons h, show k + 1 - k = 1 by omega]
    rfl
  · rw [List.getElem?_eq_none (by omega), Nat.min_eq_right (by omega), Nat.min_eq_right (by omega), Nat.sub_self]
    simp
theorem filter_map_snoc {α β : Type} {g : α → β} {xs : List α} {i : Nat} {x : α} {p : α → Bool} (h : xs[i]? = some x) : ((xs.take (i + 1)).filter p).map g = ((xs.take i).filter p).map g ++ (if p x = true then [g x] else []) := by
  rw [filter_snoc h, List.map_append]
  congr 1
  split <;> rfl
/-- pairs kept by a test that leaves the store as it is -/
theorem lc_filter {α : Type} {g r : α → PyData} {xs : List α} {t : Ft} {f : Fx} {j : Nat} {sd : Slo} {M : Sto} {p : α → Bool} {q : List PyData → Sto → Prop} (hl : xs.length ≤ 100) (ht : ∀ x ∈ xs, t (sd.set j (some (.d (g x)))) M = .ok (p x) M)
    (hf : ∀ x ∈ xs, f (sd.set j (some (.d (g x)))) M = .ok (.d (r x)) M) (h : q ((xs.filter p).map r) M) : (lcL none (.nm j) t f sd (((xs.map g).map Wv.d).map Itm.one) M []).on q := by
  refine lc_on (fun i M1 acc => M = M1 ∧ acc = ((xs.take i).filter p).map r) ?st ?fin ⟨rfl, rfl⟩
  case st =>
    rintro i it _ _ hi ⟨rfl, rfl⟩
    obtain ⟨e, he, rfl⟩ := its_at hi
    rw [List.getElem?_map] at he
    cases e : xs[i]? with
    | none => rw [e] at he; cases he
    | some x =>
      rw [e] at he
      cases he
      refine ⟨trivial, _, rfl, ?_⟩
      rw [ht x (List.mem_of_getElem? e), on_okI]
      cases hp : p x with
      | true =>
        rw [if_pos rfl, hf x (List.mem_of_getElem? e), on_okI]
        refine ⟨_, rfl, ?_, rfl, ?_⟩
        · have := List.length_filter_le p (xs.take i)
          rw [List.length_take] at this
          rw [List.length_map]
          exact Nat.lt_of_le_of_lt (show _ ≤ 100 by omega) (by decide)
        · rw [filter_map_snoc e, hp]
          rfl
      | false =>
        rw [if_neg (by simp)]
        refine ⟨rfl, ?_⟩
        rw [filter_map_snoc e, hp]
        simp
  case fin =>
    rintro _ _ ⟨rfl, rfl⟩
    rw [List.length_map, List.length_map, List.length_map, List.take_length]
    exact ⟨trivial, h⟩
theorem get_okA {α : Type} {r : Res α} {a : α} {M : Sto} (h : r.on fun w M' => w = a ∧ M' = M) : r = .ok a M := by
  obtain ⟨w, M', e, rfl, rfl⟩ := on_eq h
  exact e
theorem e_eqSt {a b : Str} {M : Sto} (ha : SeqAt.shaped (.str a) = true) (hb : SeqAt.shaped (.str b) = true) : oEqD false (.d (.str a)) (.d (.str b)) M = .ok (.d (.bool (decide (a = b)))) M := by
  rw [e_eqD (by rw [ha, hb]; rfl), eqv_str]
theorem pair_ok {n : Nat} {x : Str} {v : PyData} (hx : okD (.str x) = true) (hv : okD v = true ∧ v.depth ≤ n) : okD (.tuple [.str x, v]) = true ∧ (PyData.tuple [.str x, v]).depth ≤ n + 1 := by
  refine ⟨ok_tup (by simp) fun y hy => ?_, dep_tup fun y hy => ?_⟩
  · simp only [List.mem_cons, List.not_mem_nil, or_false] at hy
    rcases hy with rfl | rfl
    · exact hx
    · exact hv.1
  · simp only [List.mem_cons, List.not_mem_nil, or_false] at hy
    rcases hy with rfl | rfl
    · simp [PyData.depth]
    · exact hv.2
theorem sz_two (x : Str) (v : PyData) : szD (.tuple [.str x, v]) = szD v + 207 := by simp only [szD, szDs]; omega
theorem hasLk_tree {n : Nat} {es : List (Str × PyData)} {w : Str} {p : PyData} (hw' : w ∈ WQ) (hp : p ∈ PL) (h1 : ∀ e ∈ es, e.1 ∈ WL) (h2 : (es.map (·.1)).Nodup) (h3 : ∀ e ∈ es, VG n e.2) :
    hasLk (treeD es) w p = es.any fun e => decide ((pairD e).shown = (PyData.tuple [.str w, p]).shown) := by
  rw [any_lk hw' hp h1 h2 h3]
  unfold hasLk
  rw [thD_tree]
  try (cases getD (es.map fun e : Str × PyData => ((Sum.inr e.1 : Key), e.2)) (Sum.inr w) <;> rfl)
theorem hasLk_not {n : Nat} {d : PyData} {w : Str} {p : PyData} (h : VG n d) (ht : isTr d = false) : hasLk d w p = false := by
  unfold hasLk
  cases h with
  | plain h => rw [thD_plain (px_ok _ h).2.1]; rfl
  | row _ _ => rw [thD_row, getD_row_str]
  | tree _ _ _ _ => rw [isTr_tree] at ht; cases ht
theorem lcome_eq {n : Nat} {d : PyData} {s : Sp'} {M : Sto} (h : VG n d) (hn : n ≤ 15) (hz : szD d ≤ 13000) (fl : Flat M) (hs : SpG s) : F_lcome [.d d, .d (spD s)] M = .ok (.d (.list ((comesD d s).map prD))) M := by
  refine get_ok ?_
  unfold F_lcome
  refine drop_on (fn_on rfl ?_)
  unfold B_lcome
  have kt : okD (.str "tree") = true := by decide +kernel
  have kr : okD (.str "row") = true := by decide +kernel
  cases s with
  | fld w =>
    have sw := str_shaped (wq_ok w hs)
    have i0 : oIxT (.d (.tuple [.str "field", .str w])) (.d (.int 0)) M = .ok (.d (.str "field")) M := ixTd at0
    have i1 : oIxT (.d (.tuple [.str "field", .str w])) (.d (.int 1)) M = .ok (.d (.str w)) M := ixTd at1
    simp only [spD]
    try simp only [onO_nx, onO_rt, onO_bad, onO_out, onO_ite, on_ite, onO_seq, onO_skip, onO_if, onO_ret, onO_set, onO_ex, onO_for, on_bindI, on_okI, on_badI, fCall, fCons, fNil, fPv, fC, fOp, fTest, fNotT, fAndT, fOrT, fAndV, fOrV, fNotV, fIf, fTup, fLst, fLstM, fSl, fPart, fNoP, fMethL, fNeg, fPut, fPar, fAsg, fYes, List.getElem?_cons_zero, List.getElem?_cons_succ, List.set_cons_zero, List.set_cons_succ, List.map_cons, List.map_nil, List.nil_append, List.cons_append, List.length_cons, List.length_nil, List.reduceReplicate, Nat.reduceSub, Nat.reduceAdd, Nat.zero_add, Bool.not_true, Bool.not_false, if_true, if_false, reduceIte, Bool.false_eq_true, reduceCtorEq, datas, Option.map_some, Option.bind_some, e_add, e_sub, e_lt, e_le, e_gt, e_ge, e_eqI, e_eqB, e_neI, e_neT, e_lenL, e_lenT, ixN43, ixN42, ixN41, ixN10, decide_true, decide_false, i0, e_eqD (show (SeqAt.shaped (.str "field") && SeqAt.shaped (.str "field")) = true by rw [sh_field]; rfl), eqv_str, lisa_eq h fl kt, isA_tree]
    cases h with
    | plain h =>
      rw [isTr_plain (px_ok _ h).2.1]
      try simp only [onO_nx, onO_rt, onO_bad, onO_out, onO_ite, on_ite, onO_seq, onO_skip, onO_if, onO_ret, onO_set, onO_ex, onO_for, on_bindI, on_okI, on_badI, fCall, fCons, fNil, fPv, fC, fOp, fTest, fNotT, fAndT, fOrT, fAndV, fOrV, fNotV, fIf, fTup, fLst, fLstM, fSl, fPart, fNoP, fMethL, fNeg, fPut, fPar, fAsg, fYes, List.getElem?_cons_zero, List.getElem?_cons_succ, List.set_cons_zero, List.set_cons_succ, List.map_cons, List.map_nil, List.nil_append, List.cons_append, List.length_cons, List.length_nil, List.reduceReplicate, Nat.reduceSub, Nat.reduceAdd, Nat.zero_add, Bool.not_true, Bool.not_false, if_true, if_false, reduceIte, Bool.false_eq_true, reduceCtorEq, datas, Option.map_some, Option.bind_some, e_add, e_sub, e_lt, e_le, e_gt, e_ge, e_eqI, e_eqB, e_neI, e_neT, e_lenL, e_lenT, ixN43, ixN42, ixN41, ixN10, decide_true, decide_false, show (0 : Nat) ≤ sizeLine from by decide]
      exact fin_same fl ⟨by simp only [comesD, thD_plain (px_ok _ h).2.1]; rfl, rfl⟩
    | row _ _ =>
      rw [isTr_row]
      try simp only [onO_nx, onO_rt, onO_bad, onO_out, onO_ite, on_ite, onO_seq, onO_skip, onO_if, onO_ret, onO_set, onO_ex, onO_for, on_bindI, on_okI, on_badI, fCall, fCons, fNil, fPv, fC, fOp, fTest, fNotT, fAndT, fOrT, fAndV, fOrV, fNotV, fIf, fTup, fLst, fLstM, fSl, fPart, fNoP, fMethL, fNeg, fPut, fPar, fAsg, fYes, List.getElem?_cons_zero, List.getElem?_cons_succ, List.set_cons_zero, List.set_cons_succ, List.map_cons, List.map_nil, List.nil_append, List.cons_append, List.length_cons, List.length_nil, List.reduceReplicate, Nat.reduceSub, Nat.reduceAdd, Nat.zero_add, Bool.not_true, Bool.not_false, if_true, if_false, reduceIte, Bool.false_eq_true, reduceCtorEq, datas, Option.map_some, Option.bind_some, e_add, e_sub, e_lt, e_le, e_gt, e_ge, e_eqI, e_eqB, e_neI, e_neT, e_lenL, e_lenT, ixN43, ixN42, ixN41, ixN10, decide_true, decide_false, show (0 : Nat) ≤ sizeLine from by decide]
      exact fin_same fl ⟨by simp only [comesD, thD_row, getD_row_str]; rfl, rfl⟩
    | tree hl hw hk hv =>
      rw [isTr_tree]
      unfold fLc fiT
      simp only [treeD]
      try simp only [onO_nx, onO_rt, onO_bad, onO_out, onO_ite, on_ite, onO_seq, onO_skip, onO_if, onO_ret, onO_set, onO_ex, onO_for, on_bindI, on_okI, on_badI, fCall, fCons, fNil, fPv, fC, fOp, fTest, fNotT, fAndT, fOrT, fAndV, fOrV, fNotV, fIf, fTup, fLst, fLstM, fSl, fPart, fNoP, fMethL, fNeg, fPut, fPar, fAsg, fYes, List.getElem?_cons_zero, List.getElem?_cons_succ, List.set_cons_zero, List.set_cons_succ, List.map_cons, List.map_nil, List.nil_append, List.cons_append, List.length_cons, List.length_nil, List.reduceReplicate, Nat.reduceSub, Nat.reduceAdd, Nat.zero_add, Bool.not_true, Bool.not_false, if_true, if_false, reduceIte, Bool.false_eq_true, reduceCtorEq, datas, Option.map_some, Option.bind_some, e_add, e_sub, e_lt, e_le, e_gt, e_ge, e_eqI, e_eqB, e_neI, e_neT, e_lenL, e_lenT, ixN43, ixN42, ixN41, ixN10, decide_true, decide_false]
      rw [ixTd at1]
      try simp only [onO_nx, onO_rt, onO_bad, onO_out, onO_ite, on_ite, onO_seq, onO_skip, onO_if, onO_ret, onO_set, onO_ex, onO_for, on_bindI, on_okI, on_badI, fCall, fCons, fNil, fPv, fC, fOp, fTest, fNotT, fAndT, fOrT, fAndV, fOrV, fNotV, fIf, fTup, fLst, fLstM, fSl, fPart, fNoP, fMethL, fNeg, fPut, fPar, fAsg, fYes, List.getElem?_cons_zero, List.getElem?_cons_succ, List.set_cons_zero, List.set_cons_succ, List.map_cons, List.map_nil, List.nil_append, List.cons_append, List.length_cons, List.length_nil, List.reduceReplicate, Nat.reduceSub, Nat.reduceAdd, Nat.zero_add, Bool.not_true, Bool.not_false, if_true, if_false, reduceIte, Bool.false_eq_true, reduceCtorEq, datas, Option.map_some, Option.bind_some, e_add, e_sub, e_lt, e_le, e_gt, e_ge, e_eqI, e_eqB, e_neI, e_neT, e_lenL, e_lenT, ixN43, ixN42, ixN41, ixN10, decide_true, decide_false, wipeD]
      refine lc_filter (g := pairD) (p := fun e => decide (e.1 = w)) (by omega) (fun e he => ?_) (fun e he => rfl) ?_
      · have j0 : oIxT (.d (pairD e)) (.d (.int 0)) M = .ok (.d (.str e.1)) M := ixTd at0
        show (fTest (fOp (oEqD false) (fOp oIxT (fPv 4) (fC (.d (.int 0)))) (fOp oIxT (fPv 1) (fC (.d (.int 1))))) [_, some (.d (.tuple [.str "field", .str w])), _, _, some (.d (pairD e)), _] M) = _
        simp only [fTest, fOp, fPv, fC, List.getElem?_cons_zero, List.getElem?_cons_succ, Res.bind, j0, i1, e_eqD (show (SeqAt.shaped (.str e.1) && SeqAt.shaped (.str w)) = true by rw [sw, str_shaped (wl_ok _ (hw e he))]; rfl), eqv_str]
      · try simp only [onO_nx, onO_rt, onO_bad, onO_out, onO_ite, on_ite, onO_seq, onO_skip, onO_if, onO_ret, onO_set, onO_ex, onO_for, on_bindI, on_okI, on_badI, fCall, fCons, fNil, fPv, fC, fOp, fTest, fNotT, fAndT, fOrT, fAndV, fOrV, fNotV, fIf, fTup, fLst, fLstM, fSl, fPart, fNoP, fMethL, fNeg, fPut, fPar, fAsg, fYes, List.getElem?_cons_zero, List.getElem?_cons_succ, List.set_cons_zero, List.set_cons_succ, List.map_cons, List.map_nil, List.nil_append, List.cons_append, List.length_cons, List.length_nil, List.reduceReplicate, Nat.reduceSub, Nat.reduceAdd, Nat.zero_add, Bool.not_true, Bool.not_false, if_true, if_false, reduceIte, Bool.false_eq_true, reduceCtorEq, datas, Option.map_some, Option.bind_some, e_add, e_sub, e_lt, e_le, e_gt, e_ge, e_eqI, e_eqB, e_neI, e_neT, e_lenL, e_lenT, ixN43, ixN42, ixN41, ixN10, decide_true, decide_false]
        refine fin_same fl ⟨?_, rfl⟩
        rw [show (PyData.tuple [.str "tree", .tuple (List.map pairD _)]) = treeD _ from rfl]
        simp only [comesD, thD_tree]
        rw [filt_one hk]
        try (cases getD (List.map (fun e : Str × PyData => ((Sum.inr e.1 : Key), e.2)) _) (Sum.inr w) <;> rfl)
  | num k =>
    have i0 : oIxT (.d (.tuple [.str "at", .int (k : Nat)])) (.d (.int 0)) M = .ok (.d (.str "at")) M := ixTd at0
    have i1 : oIxT (.d (.tuple [.str "at", .int (k : Nat)])) (.d (.int 1)) M = .ok (.d (.int (k : Nat))) M := ixTd at1
    have q1 : oEqD false (.d (.str "at")) (.d (.str "field")) M = .ok (.d (.bool false)) M := e_eqSt sh_at sh_field
    have q2 : oEqD false (.d (.str "at")) (.d (.str "at")) M = .ok (.d (.bool true)) M := e_eqSt sh_at sh_at
    simp only [spD]
    try simp only [onO_nx, onO_rt, onO_bad, onO_out, onO_ite, on_ite, onO_seq, onO_skip, onO_if, onO_ret, onO_set, onO_ex, onO_for, on_bindI, on_okI, on_badI, fCall, fCons, fNil, fPv, fC, fOp, fTest, fNotT, fAndT, fOrT, fAndV, fOrV, fNotV, fIf, fTup, fLst, fLstM, fSl, fPart, fNoP, fMethL, fNeg, fPut, fPar, fAsg, fYes, List.getElem?_cons_zero, List.getElem?_cons_succ, List.set_cons_zero, List.set_cons_succ, List.map_cons, List.map_nil, List.nil_append, List.cons_append, List.length_cons, List.length_nil, List.reduceReplicate, Nat.reduceSub, Nat.reduceAdd, Nat.zero_add, Bool.not_true, Bool.not_false, if_true, if_false, reduceIte, Bool.false_eq_true, reduceCtorEq, datas, Option.map_some, Option.bind_some, e_add, e_sub, e_lt, e_le, e_gt, e_ge, e_eqI, e_eqB, e_neI, e_neT, e_lenL, e_lenT, ixN43, ixN42, ixN41, ixN10, decide_true, decide_false, i0, q1, lisa_eq h fl kr, isA_row]
    cases h with
    | plain h =>
      rw [isRw_plain (px_ok _ h).2.1]
      try simp only [onO_nx, onO_rt, onO_bad, onO_out, onO_ite, on_ite, onO_seq, onO_skip, onO_if, onO_ret, onO_set, onO_ex, onO_for, on_bindI, on_okI, on_badI, fCall, fCons, fNil, fPv, fC, fOp, fTest, fNotT, fAndT, fOrT, fAndV, fOrV, fNotV, fIf, fTup, fLst, fLstM, fSl, fPart, fNoP, fMethL, fNeg, fPut, fPar, fAsg, fYes, List.getElem?_cons_zero, List.getElem?_cons_succ, List.set_cons_zero, List.set_cons_succ, List.map_cons, List.map_nil, List.nil_append, List.cons_append, List.length_cons, List.length_nil, List.reduceReplicate, Nat.reduceSub, Nat.reduceAdd, Nat.zero_add, Bool.not_true, Bool.not_false, if_true, if_false, reduceIte, Bool.false_eq_true, reduceCtorEq, datas, Option.map_some, Option.bind_some, e_add, e_sub, e_lt, e_le, e_gt, e_ge, e_eqI, e_eqB, e_neI, e_neT, e_lenL, e_lenT, ixN43, ixN42, ixN41, ixN10, decide_true, decide_false, show (0 : Nat) ≤ sizeLine from by decide]
      exact fin_same fl ⟨by simp only [comesD, thD_plain (px_ok _ h).2.1]; rfl, rfl⟩
    | tree _ _ _ _ =>
      rw [isRw_tree]
      try simp only [onO_nx, onO_rt, onO_bad, onO_out, onO_ite, on_ite, onO_seq, onO_skip, onO_if, onO_ret, onO_set, onO_ex, onO_for, on_bindI, on_okI, on_badI, fCall, fCons, fNil, fPv, fC, fOp, fTest, fNotT, fAndT, fOrT, fAndV, fOrV, fNotV, fIf, fTup, fLst, fLstM, fSl, fPart, fNoP, fMethL, fNeg, fPut, fPar, fAsg, fYes, List.getElem?_cons_zero, List.getElem?_cons_succ, List.set_cons_zero, List.set_cons_succ, List.map_cons, List.map_nil, List.nil_append, List.cons_append, List.length_cons, List.length_nil, List.reduceReplicate, Nat.reduceSub, Nat.reduceAdd, Nat.zero_add, Bool.not_true, Bool.not_false, if_true, if_false, reduceIte, Bool.false_eq_true, reduceCtorEq, datas, Option.map_some, Option.bind_some, e_add, e_sub, e_lt, e_le, e_gt, e_ge, e_eqI, e_eqB, e_neI, e_neT, e_lenL, e_lenT, ixN43, ixN42, ixN41, ixN10, decide_true, decide_false, show (0 : Nat) ≤ sizeLine from by decide]
      exact fin_same fl ⟨by simp only [comesD, thD_tree, getD_tree_int]; rfl, rfl⟩
    | row hl hv =>
      rw [isRw_row]
      try simp only [onO_nx, onO_rt, onO_bad, onO_out, onO_ite, on_ite, onO_seq, onO_skip, onO_if, onO_ret, onO_set, onO_ex, onO_for, on_bindI, on_okI, on_badI, fCall, fCons, fNil, fPv, fC, fOp, fTest, fNotT, fAndT, fOrT, fAndV, fOrV, fNotV, fIf, fTup, fLst, fLstM, fSl, fPart, fNoP, fMethL, fNeg, fPut, fPar, fAsg, fYes, List.getElem?_cons_zero, List.getElem?_cons_succ, List.set_cons_zero, List.set_cons_succ, List.map_cons, List.map_nil, List.nil_append, List.cons_append, List.length_cons, List.length_nil, List.reduceReplicate, Nat.reduceSub, Nat.reduceAdd, Nat.zero_add, Bool.not_true, Bool.not_false, if_true, if_false, reduceIte, Bool.false_eq_true, reduceCtorEq, datas, Option.map_some, Option.bind_some, e_add, e_sub, e_lt, e_le, e_gt, e_ge, e_eqI, e_eqB, e_neI, e_neT, e_lenL, e_lenT, ixN43, ixN42, ixN41, ixN10, decide_true, decide_false, fListEnum]
      simp only [rowD]
      rw [ixTd at1]
      try simp only [onO_nx, onO_rt, onO_bad, onO_out, onO_ite, on_ite, onO_seq, onO_skip, onO_if, onO_ret, onO_set, onO_ex, onO_for, on_bindI, on_okI, on_badI, fCall, fCons, fNil, fPv, fC, fOp, fTest, fNotT, fAndT, fOrT, fAndV, fOrV, fNotV, fIf, fTup, fLst, fLstM, fSl, fPart, fNoP, fMethL, fNeg, fPut, fPar, fAsg, fYes, List.getElem?_cons_zero, List.getElem?_cons_succ, List.set_cons_zero, List.set_cons_succ, List.map_cons, List.map_nil, List.nil_append, List.cons_append, List.length_cons, List.length_nil, List.reduceReplicate, Nat.reduceSub, Nat.reduceAdd, Nat.zero_add, Bool.not_true, Bool.not_false, if_true, if_false, reduceIte, Bool.false_eq_true, reduceCtorEq, datas, Option.map_some, Option.bind_some, e_add, e_sub, e_lt, e_le, e_gt, e_ge, e_eqI, e_eqB, e_neI, e_neT, e_lenL, e_lenT, ixN43, ixN42, ixN41, ixN10, decide_true, decide_false, i0, q2, i1, oSlL, lsv, datas_d]
      refine fin_same fl ⟨?_, rfl⟩
      rw [show (PyData.tuple [.str "row", .tuple _]) = rowD _ from rfl, cut_one, enD_map]
      simp only [comesD, thD_row, getD_row]
      rw [List.getElem?_map, enL_at, Nat.zero_add]
      cases (_ : List PyData)[k]? <;> rfl
  | each =>
    have i0 : oIxT (.d (.tuple [.str "each"])) (.d (.int 0)) M = .ok (.d (.str "each")) M := ixTd at0
    have q1 : oEqD false (.d (.str "each")) (.d (.str "field")) M = .ok (.d (.bool false)) M := e_eqSt sh_each sh_field
    have q2 : oEqD false (.d (.str "each")) (.d (.str "at")) M = .ok (.d (.bool false)) M := e_eqSt sh_each sh_at
    have q3 : oEqD false (.d (.str "each")) (.d (.str "each")) M = .ok (.d (.bool true)) M := e_eqSt sh_each sh_each
    simp only [spD]
    try simp only [onO_nx, onO_rt, onO_bad, onO_out, onO_ite, on_ite, onO_seq, onO_skip, onO_if, onO_ret, onO_set, onO_ex, onO_for, on_bindI, on_okI, on_badI, fCall, fCons, fNil, fPv, fC, fOp, fTest, fNotT, fAndT, fOrT, fAndV, fOrV, fNotV, fIf, fTup, fLst, fLstM, fSl, fPart, fNoP, fMethL, fNeg, fPut, fPar, fAsg, fYes, List.getElem?_cons_zero, List.getElem?_cons_succ, List.set_cons_zero, List.set_cons_succ, List.map_cons, List.map_nil, List.nil_append, List.cons_append, List.length_cons, List.length_nil, List.reduceReplicate, Nat.reduceSub, Nat.reduceAdd, Nat.zero_add, Bool.not_true, Bool.not_false, if_true, if_false, reduceIte, Bool.false_eq_true, reduceCtorEq, datas, Option.map_some, Option.bind_some, e_add, e_sub, e_lt, e_le, e_gt, e_ge, e_eqI, e_eqB, e_neI, e_neT, e_lenL, e_lenT, ixN43, ixN42, ixN41, ixN10, decide_true, decide_false, i0, q1, lisa_eq h fl kr, isA_row]
    cases er : isRw d with
    | false =>
      try simp only [onO_nx, onO_rt, onO_bad, onO_out, onO_ite, on_ite, onO_seq, onO_skip, onO_if, onO_ret, onO_set, onO_ex, onO_for, on_bindI, on_okI, on_badI, fCall, fCons, fNil, fPv, fC, fOp, fTest, fNotT, fAndT, fOrT, fAndV, fOrV, fNotV, fIf, fTup, fLst, fLstM, fSl, fPart, fNoP, fMethL, fNeg, fPut, fPar, fAsg, fYes, List.getElem?_cons_zero, List.getElem?_cons_succ, List.set_cons_zero, List.set_cons_succ, List.map_cons, List.map_nil, List.nil_append, List.cons_append, List.length_cons, List.length_nil, List.reduceReplicate, Nat.reduceSub, Nat.reduceAdd, Nat.zero_add, Bool.not_true, Bool.not_false, if_true, if_false, reduceIte, Bool.false_eq_true, reduceCtorEq, datas, Option.map_some, Option.bind_some, e_add, e_sub, e_lt, e_le, e_gt, e_ge, e_eqI, e_eqB, e_neI, e_neT, e_lenL, e_lenT, ixN43, ixN42, ixN41, ixN10, decide_true, decide_false, show (0 : Nat) ≤ sizeLine from by decide]
      exact fin_same fl ⟨by simp [comesD, er], rfl⟩
    | true =>
      cases h with
      | plain h => rw [isRw_plain (px_ok _ h).2.1] at er; cases er
      | tree _ _ _ _ => rw [isRw_tree] at er; cases er
      | row hl hv =>
        try simp only [onO_nx, onO_rt, onO_bad, onO_out, onO_ite, on_ite, onO_seq, onO_skip, onO_if, onO_ret, onO_set, onO_ex, onO_for, on_bindI, on_okI, on_badI, fCall, fCons, fNil, fPv, fC, fOp, fTest, fNotT, fAndT, fOrT, fAndV, fOrV, fNotV, fIf, fTup, fLst, fLstM, fSl, fPart, fNoP, fMethL, fNeg, fPut, fPar, fAsg, fYes, List.getElem?_cons_zero, List.getElem?_cons_succ, List.set_cons_zero, List.set_cons_succ, List.map_cons, List.map_nil, List.nil_append, List.cons_append, List.length_cons, List.length_nil, List.reduceReplicate, Nat.reduceSub, Nat.reduceAdd, Nat.zero_add, Bool.not_true, Bool.not_false, if_true, if_false, reduceIte, Bool.false_eq_true, reduceCtorEq, datas, Option.map_some, Option.bind_some, e_add, e_sub, e_lt, e_le, e_gt, e_ge, e_eqI, e_eqB, e_neI, e_neT, e_lenL, e_lenT, ixN43, ixN42, ixN41, ixN10, decide_true, decide_false, fListEnum]
        simp only [rowD]
        rw [ixTd at1]
        try simp only [onO_nx, onO_rt, onO_bad, onO_out, onO_ite, on_ite, onO_seq, onO_skip, onO_if, onO_ret, onO_set, onO_ex, onO_for, on_bindI, on_okI, on_badI, fCall, fCons, fNil, fPv, fC, fOp, fTest, fNotT, fAndT, fOrT, fAndV, fOrV, fNotV, fIf, fTup, fLst, fLstM, fSl, fPart, fNoP, fMethL, fNeg, fPut, fPar, fAsg, fYes, List.getElem?_cons_zero, List.getElem?_cons_succ, List.set_cons_zero, List.set_cons_succ, List.map_cons, List.map_nil, List.nil_append, List.cons_append, List.length_cons, List.length_nil, List.reduceReplicate, Nat.reduceSub, Nat.reduceAdd, Nat.zero_add, Bool.not_true, Bool.not_false, if_true, if_false, reduceIte, Bool.false_eq_true, reduceCtorEq, datas, Option.map_some, Option.bind_some, e_add, e_sub, e_lt, e_le, e_gt, e_ge, e_eqI, e_eqB, e_neI, e_neT, e_lenL, e_lenT, ixN43, ixN42, ixN41, ixN10, decide_true, decide_false, i0, q2, q3]
        refine fin_same fl ⟨?_, rfl⟩
        rw [show (PyData.tuple [.str "row", .tuple _]) = rowD _ from rfl, enD_map]
        simp only [comesD, er, if_true, thD_row]
  | whr w p =>
    obtain ⟨hw', hp⟩ := hs
    have i0 : oIxT (.d (.tuple [.str "where", .str w, p])) (.d (.int 0)) M = .ok (.d (.str "where")) M := ixTd at0
    have i1 : oIxT (.d (.tuple [.str "where", .str w, p])) (.d (.int 1)) M = .ok (.d (.str w)) M := ixTd at1
    have i2 : oIxT (.d (.tuple [.str "where", .str w, p])) (.d (.int 2)) M = .ok (.d p) M := ixTd at2
    have q1 : oEqD false (.d (.str "where")) (.d (.str "field")) M = .ok (.d (.bool false)) M := e_eqSt sh_where sh_field
    have q2 : oEqD false (.d (.str "where")) (.d (.str "at")) M = .ok (.d (.bool false)) M := e_eqSt sh_where sh_at
    have q3 : oEqD false (.d (.str "where")) (.d (.str "each")) M = .ok (.d (.bool false)) M := e_eqSt sh_where sh_each
    have pk := pl_ok p hp
    have pw := pair_ok (n := 0) (wq_ok w hw') ⟨pk.1, by rw [pk.2.2.2]; exact Nat.le_refl _⟩
    have rw1 : oRepr [.d (.tuple [.str w, p])] M = .ok (.d (.str (PyData.tuple [.str w, p]).shown)) M := repr_eq pw.1 (by omega) (by rw [sz_two, pk.2.2.1]; decide)
    simp only [spD]
    try simp only [onO_nx, onO_rt, onO_bad, onO_out, onO_ite, on_ite, onO_seq, onO_skip, onO_if, onO_ret, onO_set, onO_ex, onO_for, on_bindI, on_okI, on_badI, fCall, fCons, fNil, fPv, fC, fOp, fTest, fNotT, fAndT, fOrT, fAndV, fOrV, fNotV, fIf, fTup, fLst, fLstM, fSl, fPart, fNoP, fMethL, fNeg, fPut, fPar, fAsg, fYes, List.getElem?_cons_zero, List.getElem?_cons_succ, List.set_cons_zero, List.set_cons_succ, List.map_cons, List.map_nil, List.nil_append, List.cons_append, List.length_cons, List.length_nil, List.reduceReplicate, Nat.reduceSub, Nat.reduceAdd, Nat.zero_add, Bool.not_true, Bool.not_false, if_true, if_false, reduceIte, Bool.false_eq_true, reduceCtorEq, datas, Option.map_some, Option.bind_some, e_add, e_sub, e_lt, e_le, e_gt, e_ge, e_eqI, e_eqB, e_neI, e_neT, e_lenL, e_lenT, ixN43, ixN42, ixN41, ixN10, decide_true, decide_false, i0, q1, lisa_eq h fl kr, isA_row]
    cases er : isRw d with
    | false =>
      try simp only [onO_nx, onO_rt, onO_bad, onO_out, onO_ite, on_ite, onO_seq, onO_skip, onO_if, onO_ret, onO_set, onO_ex, onO_for, on_bindI, on_okI, on_badI, fCall, fCons, fNil, fPv, fC, fOp, fTest, fNotT, fAndT, fOrT, fAndV, fOrV, fNotV, fIf, fTup, fLst, fLstM, fSl, fPart, fNoP, fMethL, fNeg, fPut, fPar, fAsg, fYes, List.getElem?_cons_zero, List.getElem?_cons_succ, List.set_cons_zero, List.set_cons_succ, List.map_cons, List.map_nil, List.nil_append, List.cons_append, List.length_cons, List.length_nil, List.reduceReplicate, Nat.reduceSub, Nat.reduceAdd, Nat.zero_add, Bool.not_true, Bool.not_false, if_true, if_false, reduceIte, Bool.false_eq_true, reduceCtorEq, datas, Option.map_some, Option.bind_some, e_add, e_sub, e_lt, e_le, e_gt, e_ge, e_eqI, e_eqB, e_neI, e_neT, e_lenL, e_lenT, ixN43, ixN42, ixN41, ixN10, decide_true, decide_false, show (0 : Nat) ≤ sizeLine from by decide]
      exact fin_same fl ⟨by simp [comesD, er], rfl⟩
    | true =>
      cases h with
      | plain h => rw [isRw_plain (px_ok _ h).2.1] at er; cases er
      | tree _ _ _ _ => rw [isRw_tree] at er; cases er
      | @row n ds hl hv =>
        try simp only [onO_nx, onO_rt, onO_bad, onO_out, onO_ite, on_ite, onO_seq, onO_skip, onO_if, onO_ret, onO_set, onO_ex, onO_for, on_bindI, on_okI, on_badI, fCall, fCons, fNil, fPv, fC, fOp, fTest, fNotT, fAndT, fOrT, fAndV, fOrV, fNotV, fIf, fTup, fLst, fLstM, fSl, fPart, fNoP, fMethL, fNeg, fPut, fPar, fAsg, fYes, List.getElem?_cons_zero, List.getElem?_cons_succ, List.set_cons_zero, List.set_cons_succ, List.map_cons, List.map_nil, List.nil_append, List.cons_append, List.length_cons, List.length_nil, List.reduceReplicate, Nat.reduceSub, Nat.reduceAdd, Nat.zero_add, Bool.not_true, Bool.not_false, if_true, if_false, reduceIte, Bool.false_eq_true, reduceCtorEq, datas, Option.map_some, Option.bind_some, e_add, e_sub, e_lt, e_le, e_gt, e_ge, e_eqI, e_eqB, e_neI, e_neT, e_lenL, e_lenT, ixN43, ixN42, ixN41, ixN10, decide_true, decide_false, fListEnum]
        simp only [rowD]
        rw [ixTd at1]
        try simp only [onO_nx, onO_rt, onO_bad, onO_out, onO_ite, on_ite, onO_seq, onO_skip, onO_if, onO_ret, onO_set, onO_ex, onO_for, on_bindI, on_okI, on_badI, fCall, fCons, fNil, fPv, fC, fOp, fTest, fNotT, fAndT, fOrT, fAndV, fOrV, fNotV, fIf, fTup, fLst, fLstM, fSl, fPart, fNoP, fMethL, fNeg, fPut, fPar, fAsg, fYes, List.getElem?_cons_zero, List.getElem?_cons_succ, List.set_cons_zero, List.set_cons_succ, List.map_cons, List.map_nil, List.nil_append, List.cons_append, List.length_cons, List.length_nil, List.reduceReplicate, Nat.reduceSub, Nat.reduceAdd, Nat.zero_add, Bool.not_true, Bool.not_false, if_true, if_false, reduceIte, Bool.false_eq_true, reduceCtorEq, datas, Option.map_some, Option.bind_some, e_add, e_sub, e_lt, e_le, e_gt, e_ge, e_eqI, e_eqB, e_neI, e_neT, e_lenL, e_lenT, ixN43, ixN42, ixN41, ixN10, decide_true, decide_false, i0, q2, q3, i1, i2, show (2 : Nat) ≤ sizeLine from by decide, rw1]
        unfold fLc fiL
        try simp only [onO_nx, onO_rt, onO_bad, onO_out, onO_ite, on_ite, onO_seq, onO_skip, onO_if, onO_ret, onO_set, onO_ex, onO_for, on_bindI, on_okI, on_badI, fCall, fCons, fNil, fPv, fC, fOp, fTest, fNotT, fAndT, fOrT, fAndV, fOrV, fNotV, fIf, fTup, fLst, fLstM, fSl, fPart, fNoP, fMethL, fNeg, fPut, fPar, fAsg, fYes, List.getElem?_cons_zero, List.getElem?_cons_succ, List.set_cons_zero, List.set_cons_succ, List.map_cons, List.map_nil, List.nil_append, List.cons_append, List.length_cons, List.length_nil, List.reduceReplicate, Nat.reduceSub, Nat.reduceAdd, Nat.zero_add, Bool.not_true, Bool.not_false, if_true, if_false, reduceIte, Bool.false_eq_true, reduceCtorEq, datas, Option.map_some, Option.bind_some, e_add, e_sub, e_lt, e_le, e_gt, e_ge, e_eqI, e_eqB, e_neI, e_neT, e_lenL, e_lenT, ixN43, ixN42, ixN41, ixN10, decide_true, decide_false, wipeD]
        rw [enD_map]
        refine lc_filter (g := prD) (r := prD) (p := fun q => hasLk q.2 w p) (by rw [enL_len]; omega) (fun q hq => ?_) (fun q hq => rfl) ?_
        · obtain ⟨j, _, _, _, ej⟩ := enL_keys ds 0 q hq
          have vq := hv _ (List.mem_of_getElem? ej)
          have zq : szD q.2 ≤ 13000 := by
            have a1 := szDs_mem (List.mem_of_getElem? ej)
            have a2 : szD (rowD ds) ≤ 13000 := hz
            rw [sz_row] at a2
            omega
          have j1 : oIxT (.d (prD q)) (.d (.int 1)) M = .ok (.d q.2) M := ixTd at1
          refine get_okA ?_
          try simp only [onO_nx, onO_rt, onO_bad, onO_out, onO_ite, on_ite, onO_seq, onO_skip, onO_if, onO_ret, onO_set, onO_ex, onO_for, on_bindI, on_okI, on_badI, fCall, fCons, fNil, fPv, fC, fOp, fTest, fNotT, fAndT, fOrT, fAndV, fOrV, fNotV, fIf, fTup, fLst, fLstM, fSl, fPart, fNoP, fMethL, fNeg, fPut, fPar, fAsg, fYes, List.getElem?_cons_zero, List.getElem?_cons_succ, List.set_cons_zero, List.set_cons_succ, List.map_cons, List.map_nil, List.nil_append, List.cons_append, List.length_cons, List.length_nil, List.reduceReplicate, Nat.reduceSub, Nat.reduceAdd, Nat.zero_add, Bool.not_true, Bool.not_false, if_true, if_false, reduceIte, Bool.false_eq_true, reduceCtorEq, datas, Option.map_some, Option.bind_some, e_add, e_sub, e_lt, e_le, e_gt, e_ge, e_eqI, e_eqB, e_neI, e_neT, e_lenL, e_lenT, ixN43, ixN42, ixN41, ixN10, decide_true, decide_false, j1, lisa_eq vq fl kt, isA_tree]
          cases et : isTr q.2 with
          | false =>
            try simp only [onO_nx, onO_rt, onO_bad, onO_out, onO_ite, on_ite, onO_seq, onO_skip, onO_if, onO_ret, onO_set, onO_ex, onO_for, on_bindI, on_okI, on_badI, fCall, fCons, fNil, fPv, fC, fOp, fTest, fNotT, fAndT, fOrT, fAndV, fOrV, fNotV, fIf, fTup, fLst, fLstM, fSl, fPart, fNoP, fMethL, fNeg, fPut, fPar, fAsg, fYes, List.getElem?_cons_zero, List.getElem?_cons_succ, List.set_cons_zero, List.set_cons_succ, List.map_cons, List.map_nil, List.nil_append, List.cons_append, List.length_cons, List.length_nil, List.reduceReplicate, Nat.reduceSub, Nat.reduceAdd, Nat.zero_add, Bool.not_true, Bool.not_false, if_true, if_false, reduceIte, Bool.false_eq_true, reduceCtorEq, datas, Option.map_some, Option.bind_some, e_add, e_sub, e_lt, e_le, e_gt, e_ge, e_eqI, e_eqB, e_neI, e_neT, e_lenL, e_lenT, ixN43, ixN42, ixN41, ixN10, decide_true, decide_false]
            exact ⟨(hasLk_not vq et).symm, trivial⟩
          | true =>
            generalize q.2 = v at *
            cases vq with
            | plain h => rw [isTr_plain (px_ok _ h).2.1] at et; cases et
            | row _ _ => rw [isTr_row] at et; cases et
            | @tree m es h1 h2 h3 h4 =>
              try simp only [onO_nx, onO_rt, onO_bad, onO_out, onO_ite, on_ite, onO_seq, onO_skip, onO_if, onO_ret, onO_set, onO_ex, onO_for, on_bindI, on_okI, on_badI, fCall, fCons, fNil, fPv, fC, fOp, fTest, fNotT, fAndT, fOrT, fAndV, fOrV, fNotV, fIf, fTup, fLst, fLstM, fSl, fPart, fNoP, fMethL, fNeg, fPut, fPar, fAsg, fYes, List.getElem?_cons_zero, List.getElem?_cons_succ, List.set_cons_zero, List.set_cons_succ, List.map_cons, List.map_nil, List.nil_append, List.cons_append, List.length_cons, List.length_nil, List.reduceReplicate, Nat.reduceSub, Nat.reduceAdd, Nat.zero_add, Bool.not_true, Bool.not_false, if_true, if_false, reduceIte, Bool.false_eq_true, reduceCtorEq, datas, Option.map_some, Option.bind_some, e_add, e_sub, e_lt, e_le, e_gt, e_ge, e_eqI, e_eqB, e_neI, e_neT, e_lenL, e_lenT, ixN43, ixN42, ixN41, ixN10, decide_true, decide_false]
              unfold fiT
              try simp only [onO_nx, onO_rt, onO_bad, onO_out, onO_ite, on_ite, onO_seq, onO_skip, onO_if, onO_ret, onO_set, onO_ex, onO_for, on_bindI, on_okI, on_badI, fCall, fCons, fNil, fPv, fC, fOp, fTest, fNotT, fAndT, fOrT, fAndV, fOrV, fNotV, fIf, fTup, fLst, fLstM, fSl, fPart, fNoP, fMethL, fNeg, fPut, fPar, fAsg, fYes, List.getElem?_cons_zero, List.getElem?_cons_succ, List.set_cons_zero, List.set_cons_succ, List.map_cons, List.map_nil, List.nil_append, List.cons_append, List.length_cons, List.length_nil, List.reduceReplicate, Nat.reduceSub, Nat.reduceAdd, Nat.zero_add, Bool.not_true, Bool.not_false, if_true, if_false, reduceIte, Bool.false_eq_true, reduceCtorEq, datas, Option.map_some, Option.bind_some, e_add, e_sub, e_lt, e_le, e_gt, e_ge, e_eqI, e_eqB, e_neI, e_neT, e_lenL, e_lenT, ixN43, ixN42, ixN41, ixN10, decide_true, decide_false, j1]
              have j2 : oIxT (.d (treeD es)) (.d (.int 1)) M = .ok (.d (.tuple (es.map pairD))) M := ixTd at1
              rw [j2]
              try simp only [onO_nx, onO_rt, onO_bad, onO_out, onO_ite, on_ite, onO_seq, onO_skip, onO_if, onO_ret, onO_set, onO_ex, onO_for, on_bindI, on_okI, on_badI, fCall, fCons, fNil, fPv, fC, fOp, fTest, fNotT, fAndT, fOrT, fAndV, fOrV, fNotV, fIf, fTup, fLst, fLstM, fSl, fPart, fNoP, fMethL, fNeg, fPut, fPar, fAsg, fYes, List.getElem?_cons_zero, List.getElem?_cons_succ, List.set_cons_zero, List.set_cons_succ, List.map_cons, List.map_nil, List.nil_append, List.cons_append, List.length_cons, List.length_nil, List.reduceReplicate, Nat.reduceSub, Nat.reduceAdd, Nat.zero_add, Bool.not_true, Bool.not_false, if_true, if_false, reduceIte, Bool.false_eq_true, reduceCtorEq, datas, Option.map_some, Option.bind_some, e_add, e_sub, e_lt, e_le, e_gt, e_ge, e_eqI, e_eqB, e_neI, e_neT, e_lenL, e_lenT, ixN43, ixN42, ixN41, ixN10, decide_true, decide_false, wipeD]
              refine lc_filter (g := pairD) (r := fun e => .str (pairD e).shown) (p := fun _ => true) (by omega) (fun e he => rfl) (fun e he => ?_) ?_
              · have ve := vg_ok (h4 e he)
                have pe := pair_ok (wl_ok _ (h2 e he)) ve
                have ze : szD (pairD e) ≤ 13000 := by
                  have a1 := szDs_mem (List.mem_map.mpr ⟨e, he, rfl⟩ : pairD e ∈ es.map pairD)
                  rw [sz_tree] at zq
                  rw [sz_pairs] at a1
                  omega
                have re : oRepr [.d (pairD e)] M = .ok (.d (.str (pairD e).shown)) M := repr_eq (d := pairD e) pe.1 (by have : (pairD e).depth ≤ 3 * m + 1 := pe.2; omega) (by omega)
                refine get_okA ?_
                try simp only [onO_nx, onO_rt, onO_bad, onO_out, onO_ite, on_ite, onO_seq, onO_skip, onO_if, onO_ret, onO_set, onO_ex, onO_for, on_bindI, on_okI, on_badI, fCall, fCons, fNil, fPv, fC, fOp, fTest, fNotT, fAndT, fOrT, fAndV, fOrV, fNotV, fIf, fTup, fLst, fLstM, fSl, fPart, fNoP, fMethL, fNeg, fPut, fPar, fAsg, fYes, List.getElem?_cons_zero, List.getElem?_cons_succ, List.set_cons_zero, List.set_cons_succ, List.map_cons, List.map_nil, List.nil_append, List.cons_append, List.length_cons, List.length_nil, List.reduceReplicate, Nat.reduceSub, Nat.reduceAdd, Nat.zero_add, Bool.not_true, Bool.not_false, if_true, if_false, reduceIte, Bool.false_eq_true, reduceCtorEq, datas, Option.map_some, Option.bind_some, e_add, e_sub, e_lt, e_le, e_gt, e_ge, e_eqI, e_eqB, e_neI, e_neT, e_lenL, e_lenT, ixN43, ixN42, ixN41, ixN10, decide_true, decide_false, re]
                exact ⟨trivial, trivial⟩
              · rw [List.filter_eq_self.mpr fun _ _ => rfl]
                have em : (es.map fun e => PyData.str (pairD e).shown) = (es.map fun e => (pairD e).shown).map PyData.str := by rw [List.map_map]; rfl
                rw [em]
                have c : (flatD (.str (PyData.tuple [.str w, p]).shown) && ((es.map fun e => (pairD e).shown).map PyData.str).all flatD) = true := by rw [fl_all]; rfl
                try simp only [onO_nx, onO_rt, onO_bad, onO_out, onO_ite, on_ite, onO_seq, onO_skip, onO_if, onO_ret, onO_set, onO_ex, onO_for, on_bindI, on_okI, on_badI, fCall, fCons, fNil, fPv, fC, fOp, fTest, fNotT, fAndT, fOrT, fAndV, fOrV, fNotV, fIf, fTup, fLst, fLstM, fSl, fPart, fNoP, fMethL, fNeg, fPut, fPar, fAsg, fYes, List.getElem?_cons_zero, List.getElem?_cons_succ, List.set_cons_zero, List.set_cons_succ, List.map_cons, List.map_nil, List.nil_append, List.cons_append, List.length_cons, List.length_nil, List.reduceReplicate, Nat.reduceSub, Nat.reduceAdd, Nat.zero_add, Bool.not_true, Bool.not_false, if_true, if_false, reduceIte, Bool.false_eq_true, reduceCtorEq, datas, Option.map_some, Option.bind_some, e_add, e_sub, e_lt, e_le, e_gt, e_ge, e_eqI, e_eqB, e_neI, e_neT, e_lenL, e_lenT, ixN43, ixN42, ixN41, ixN10, decide_true, decide_false, oIn, sqv, lsv, datas_d]
                rw [if_pos c]
                try simp only [onO_nx, onO_rt, onO_bad, onO_out, onO_ite, on_ite, onO_seq, onO_skip, onO_if, onO_ret, onO_set, onO_ex, onO_for, on_bindI, on_okI, on_badI, fCall, fCons, fNil, fPv, fC, fOp, fTest, fNotT, fAndT, fOrT, fAndV, fOrV, fNotV, fIf, fTup, fLst, fLstM, fSl, fPart, fNoP, fMethL, fNeg, fPut, fPar, fAsg, fYes, List.getElem?_cons_zero, List.getElem?_cons_succ, List.set_cons_zero, List.set_cons_succ, List.map_cons, List.map_nil, List.nil_append, List.cons_append, List.length_cons, List.length_nil, List.reduceReplicate, Nat.reduceSub, Nat.reduceAdd, Nat.zero_add, Bool.not_true, Bool.not_false, if_true, if_false, reduceIte, Bool.false_eq_true, reduceCtorEq, datas, Option.map_some, Option.bind_some, e_add, e_sub, e_lt, e_le, e_gt, e_ge, e_eqI, e_eqB, e_neI, e_neT, e_lenL, e_lenT, ixN43, ixN42, ixN41, ixN10, decide_true, decide_false]
                rw [in_strs, List.any_map, hasLk_tree hw' hp h2 h3 h4]
                trivial
        · try simp only [onO_nx, onO_rt, onO_bad, onO_out, onO_ite, on_ite, onO_seq, onO_skip, onO_if, onO_ret, onO_set, onO_ex, onO_for, on_bindI, on_okI, on_badI, fCall, fCons, fNil, fPv, fC, fOp, fTest, fNotT, fAndT, fOrT, fAndV, fOrV, fNotV, fIf, fTup, fLst, fLstM, fSl, fPart, fNoP, fMethL, fNeg, fPut, fPar, fAsg, fYes, List.getElem?_cons_zero, List.getElem?_cons_succ, List.set_cons_zero, List.set_cons_succ, List.map_cons, List.map_nil, List.nil_append, List.cons_append, List.length_cons, List.length_nil, List.reduceReplicate, Nat.reduceSub, Nat.reduceAdd, Nat.zero_add, Bool.not_true, Bool.not_false, if_true, if_false, reduceIte, Bool.false_eq_true, reduceCtorEq, datas, Option.map_some, Option.bind_some, e_add, e_sub, e_lt, e_le, e_gt, e_ge, e_eqI, e_eqB, e_neI, e_neT, e_lenL, e_lenT, ixN43, ixN42, ixN41, ixN10, decide_true, decide_false]
          refine fin_same fl ⟨?_, rfl⟩
          rw [show (PyData.tuple [.str "row", .tuple ds]) = rowD ds from rfl]
          simp only [comesD, er, if_true, thD_row]
end Fu

set_option Elab.async false
set_option linter.all false
set_option maxRecDepth 100000
set_option maxHeartbeats 1000000
/-! This law's own finding. -/
namespace Fu
open PySem PySem.Spec PyProof.Rows L2 Dat LamX PySem.W
/-- M stands ahead -/
structure Up (M M1 : Sto) : Prop where
  len : M.length ≤ M1.length
  tk : M1.take M.length = M
theorem Up.refl (M : Sto) : Up M M := ⟨Nat.le_refl _, List.take_length⟩
theorem Up.app {M M1 : Sto} (h : Up M M1) (o : Ob) : Up M (M1 ++ [o]) := ⟨by rw [List.length_append]; have := h.len; omega, by rw [List.take_append_of_le_length h.len]; exact h.tk⟩
theorem Up.fr {M M1 M2 : Sto} {S : List Nat} (h : Up M M1) (fr : Fr S M1 M2) (hS : ∀ i ∈ S, M.length ≤ i) : Up M M2 := by
  refine ⟨by rw [fr.len]; exact h.len, ?_⟩
  refine Eq.trans ?_ h.tk
  refine List.ext_getElem? fun j => ?_
  by_cases hj : j < M.length
  · rw [List.getElem?_take_of_lt hj, List.getElem?_take_of_lt hj]
    exact fr.at_ j fun z => by have := hS j z; omega
  · rw [List.getElem?_eq_none (by rw [List.length_take]; omega), List.getElem?_eq_none (by rw [List.length_take]; omega)]
theorem fin_up {M M' : Sto} {d : PyData} {w : Wv} {p : Wv → Sto → Prop} (e : frzW M.length M' w = some (.d d)) (u : Up M M') (fl : Flat M') (h : p (.d d) M) : DropP M p w M' := ⟨d, e, u.len, fl, by rw [u.tk]; exact h⟩
theorem walk_ls {sd : Slo} {M1 : Sto} {j : Nat} {w : Wv} {ds : List PyData} {l : Option Nat} (hw : WLs M1 w ds l) (hj : sd[j]? = some (some w)) : (fiL (fPv j) sd M1).on fun I M2 => M2 = M1 ∧ I.its = (ds.map Wv.d).map Itm.one ∧ ∀ S M3, Fr S M1 M3 → (∀ i, l = some i → i ∉ S) → okG I.gd M3 := by
  unfold fiL
  simp only [fPv, hj, on_bindI, on_okI]
  rcases hw with ⟨rfl, _⟩ | ⟨i, rfl, e1, e2⟩
  · exact ⟨rfl, rfl, fun _ _ _ _ => trivial⟩
  · simp only [e2, on_okI]
    exact ⟨trivial, trivial, fun S M3 fr hn => fr.get e2 (hn i e1)⟩
theorem found_sz {n : Nat} {d : PyData} (h : VG n d) (hz : szD d ≤ 13000) : ∀ (ss : List Sp') (i : Nat), (∀ q ∈ foundD d (ss.take i), VG n q.2 ∧ q.1.length ≤ i) ∧ wt (foundD d (ss.take i)) ≤ 13000
  | ss, 0 => by
    refine ⟨fun q hq => ?_, ?_⟩
    · rw [List.take_zero] at hq
      rw [List.mem_singleton.mp hq]
      exact ⟨h, by simp⟩
    · rw [List.take_zero]
      show wt [(([] : List Key), d)] ≤ 13000
      simp only [wt, List.map_cons, List.map_nil, List.sum_cons, List.sum_nil]
      omega
  | ss, i + 1 => by
    obtain ⟨h1, h2⟩ := found_sz h hz ss i
    cases e : ss[i]? with
    | none =>
      have a1 : ss.take (i + 1) = ss.take i := by
        rw [List.take_of_length_le, List.take_of_length_le]
        · have := List.getElem?_eq_none_iff.mp e; omega
        · have := List.getElem?_eq_none_iff.mp e; omega
      rw [a1]
      exact ⟨fun q hq => ⟨(h1 q hq).1, by have := (h1 q hq).2; omega⟩, h2⟩
    | some s =>
      have a1 : foundD d (ss.take (i + 1)) = foundS (foundD d (ss.take i)) s := by
        rw [foundD, take_succ_at e, List.foldl_append]
        rfl
      rw [a1]
      exact ⟨foundS_vg h1, Nat.le_trans (foundS_wt s fun q hq => (h1 q hq).1) h2⟩
theorem found_len {n : Nat} {L : List (List Key × PyData)} {m : Nat} (h : ∀ q ∈ L, VG n q.2 ∧ q.1.length ≤ m) (hw : wt L ≤ 13000) : L.length ≤ 65 := by
  have := wt_len (n := n) (L := L) fun q hq => (h q hq).1
  omega
theorem wt_mem {α : Type} {q : α × PyData} : ∀ {L : List (α × PyData)}, q ∈ L → szD q.2 ≤ wt L
  | r :: L, h => by
    simp only [wt, List.map_cons, List.sum_cons]
    rcases List.mem_cons.mp h with z | z
    · rw [z]; omega
    · have := wt_mem z
      simp only [wt] at this
      omega
theorem e_ext {i : Nat} {us zs : List PyData} {M : Sto} (h : M[i]? = some (.lst (us.map .d))) (hz : us.length + zs.length ≤ 1000) : oExtend (.r i) [.d (.list zs)] M = .ok (.d .none) (setL M i ((us ++ zs).map .d)) := by
  simp only [oExtend, h, lsv, List.length_map]
  rw [if_pos (Nat.le_trans hz (by decide)), List.map_append]
theorem lfound_eq {n : Nat} {d : PyData} {ss : List Sp'} {M : Sto} (h : VG n d) (hn : n ≤ 15) (hz : szD d ≤ 13000) (fl : Flat M) (hs : ∀ s ∈ ss, SpG s) (hl : ss.length ≤ 50) :
    F_lfound [.d d, .d (.tuple (ss.map spD))] M = .ok (.d (.list ((foundD d ss).map flD))) M := by
  refine get_ok ?_
  unfold F_lfound
  refine drop_on (fn_on rfl ?_)
  unfold B_lfound
  try simp only [onO_nx, onO_rt, onO_bad, onO_out, onO_ite, on_ite, onO_seq, onO_skip, onO_if, onO_ret, onO_set, onO_ex, onO_for, on_bindI, on_okI, on_badI, fCall, fCons, fNil, fPv, fC, fOp, fTest, fNotT, fAndT, fOrT, fAndV, fOrV, fNotV, fIf, fTup, fLst, fLstM, fSl, fPart, fNoP, fMethL, fNeg, fPut, fPar, fAsg, fYes, List.getElem?_cons_zero, List.getElem?_cons_succ, List.set_cons_zero, List.set_cons_succ, List.map_cons, List.map_nil, List.nil_append, List.cons_append, List.length_cons, List.length_nil, List.reduceReplicate, Nat.reduceSub, Nat.reduceAdd, Nat.zero_add, Bool.not_true, Bool.not_false, if_true, if_false, reduceIte, Bool.false_eq_true, reduceCtorEq, datas, Option.map_some, Option.bind_some, e_add, e_sub, e_lt, e_le, e_gt, e_ge, e_eqI, e_eqB, e_neI, e_neT, e_lenL, e_lenT, ixN43, ixN42, ixN41, ixN10, decide_true, decide_false, fiT, show (2 : Nat) ≤ sizeLine from by decide, show (1 : Nat) ≤ sizeLine from by decide, show (0 : Nat) ≤ sizeLine from by decide]
  refine for_on (fun i sd M1 => ∃ w l x3 x4 x5 x6, sd = [some (.d d), some (.d (.tuple (ss.map spD))), some w, x3, x4, x5, x6, none, none] ∧ WLs M1 w ((foundD d (ss.take i)).map flD) l ∧ (∀ j, l = some j → M.length ≤ j) ∧ Up M M1 ∧ Flat M1) ?st ?fin
    ⟨_, none, none, none, none, none, rfl, .inl ⟨rfl, rfl⟩, (by simp), Up.refl M, fl⟩
  case st =>
    rintro i it _ M1 hi ⟨w, l, x3, x4, x5, x6, rfl, wl, hl0, up, fl1⟩
    obtain ⟨e, he, rfl⟩ := its_at hi
    rw [List.getElem?_map] at he
    cases es : ss[i]? with
    | none => rw [es] at he; cases he
    | some s =>
      rw [es] at he
      cases he
      have hi50 : i < 50 := by have := (List.getElem?_eq_some_iff.mp es).1; omega
      have sg := hs s (List.mem_of_getElem? es)
      obtain ⟨hv, hw⟩ := found_sz h hz ss i
      generalize hL : foundD d (ss.take i) = L at hv hw wl
      have eL : foundD d (ss.take (i + 1)) = foundS L s := by
        rw [← hL, foundD, take_succ_at es, List.foldl_append]
        rfl
      refine ⟨trivial, _, rfl, ?_⟩
      unfold B_lfound_2
      try simp only [onO_nx, onO_rt, onO_bad, onO_out, onO_ite, on_ite, onO_seq, onO_skip, onO_if, onO_ret, onO_set, onO_ex, onO_for, on_bindI, on_okI, on_badI, fCall, fCons, fNil, fPv, fC, fOp, fTest, fNotT, fAndT, fOrT, fAndV, fOrV, fNotV, fIf, fTup, fLst, fLstM, fSl, fPart, fNoP, fMethL, fNeg, fPut, fPar, fAsg, fYes, List.getElem?_cons_zero, List.getElem?_cons_succ, List.set_cons_zero, List.set_cons_succ, List.map_cons, List.map_nil, List.nil_append, List.cons_append, List.length_cons, List.length_nil, List.reduceReplicate, Nat.reduceSub, Nat.reduceAdd, Nat.zero_add, Bool.not_true, Bool.not_false, if_true, if_false, reduceIte, Bool.false_eq_true, reduceCtorEq, datas, Option.map_some, Option.bind_some, e_add, e_sub, e_lt, e_le, e_gt, e_ge, e_eqI, e_eqB, e_neI, e_neT, e_lenL, e_lenT, ixN43, ixN42, ixN41, ixN10, decide_true, decide_false, show (0 : Nat) ≤ sizeLine from by decide]
      generalize hK : M1.length = K
      have KM : M.length ≤ K := by rw [← hK]; exact up.len
      have fl2 : Flat (M1 ++ [.lst []]) := fl1.app (by intro w hw; cases hw)
      have k2 : (M1 ++ [Ob.lst []])[K]? = some (.lst (([] : List PyData).map .d)) := by rw [← hK]; exact at_new
      have wl2 : WLs (M1 ++ [.lst []]) w (L.map flD) l := by
        rcases wl with z | ⟨j, e1, e2, e3⟩
        · exact .inl z
        · exact .inr ⟨j, e1, e2, at_old e3⟩
      have lK : ∀ j, l = some j → j ∉ [K] := fun j hj => by
        rcases wl with z | ⟨j', e1, e2, e3⟩
        · rw [z.2] at hj; cases hj
        · rw [e2] at hj
          cases hj
          have := at_lt e3
          simp only [List.mem_cons, List.not_mem_nil, or_false]
          omega
      refine on_imp (walk_ls (j := 2) wl2 rfl) ?_
      rintro I _ ⟨rfl, eI, ok⟩
      rw [eI]
      refine for_on (fun j sd M3 => ∃ y5 y6, sd = [some (.d d), some (.d (.tuple (ss.map spD))), some w, some (.d (spD s)), some (.r K), y5, y6, none, none] ∧ Fr [K] (M1 ++ [.lst []]) M3 ∧ Flat M3 ∧ M3[K]? = some (.lst (((foundS (L.take j) s).map flD).map .d))) ?st2 ?fin2
        ⟨x5, x6, rfl, Fr.refl _ _, fl2, k2⟩
      case st2 =>
        rintro j it _ M3 hj ⟨y5, y6, rfl, fr, fl3, k3⟩
        obtain ⟨e, he, rfl⟩ := its_at hj
        rw [List.getElem?_map] at he
        cases eq : L[j]? with
        | none => rw [eq] at he; cases he
        | some q =>
          rw [eq] at he
          cases he
          have hq := hv q (List.mem_of_getElem? eq)
          have zq : szD q.2 ≤ 13000 := Nat.le_trans (wt_mem (List.mem_of_getElem? eq)) hw
          refine ⟨ok [K] M3 fr lK, _, rfl, ?_⟩
          unfold B_lfound_1
          try simp only [onO_nx, onO_rt, onO_bad, onO_out, onO_ite, on_ite, onO_seq, onO_skip, onO_if, onO_ret, onO_set, onO_ex, onO_for, on_bindI, on_okI, on_badI, fCall, fCons, fNil, fPv, fC, fOp, fTest, fNotT, fAndT, fOrT, fAndV, fOrV, fNotV, fIf, fTup, fLst, fLstM, fSl, fPart, fNoP, fMethL, fNeg, fPut, fPar, fAsg, fYes, List.getElem?_cons_zero, List.getElem?_cons_succ, List.set_cons_zero, List.set_cons_succ, List.map_cons, List.map_nil, List.nil_append, List.cons_append, List.length_cons, List.length_nil, List.reduceReplicate, Nat.reduceSub, Nat.reduceAdd, Nat.zero_add, Bool.not_true, Bool.not_false, if_true, if_false, reduceIte, Bool.false_eq_true, reduceCtorEq, datas, Option.map_some, Option.bind_some, e_add, e_sub, e_lt, e_le, e_gt, e_ge, e_eqI, e_eqB, e_neI, e_neT, e_lenL, e_lenT, ixN43, ixN42, ixN41, ixN10, decide_true, decide_false, lstW_at k3]
          unfold fLc fiL
          try simp only [onO_nx, onO_rt, onO_bad, onO_out, onO_ite, on_ite, onO_seq, onO_skip, onO_if, onO_ret, onO_set, onO_ex, onO_for, on_bindI, on_okI, on_badI, fCall, fCons, fNil, fPv, fC, fOp, fTest, fNotT, fAndT, fOrT, fAndV, fOrV, fNotV, fIf, fTup, fLst, fLstM, fSl, fPart, fNoP, fMethL, fNeg, fPut, fPar, fAsg, fYes, List.getElem?_cons_zero, List.getElem?_cons_succ, List.set_cons_zero, List.set_cons_succ, List.map_cons, List.map_nil, List.nil_append, List.cons_append, List.length_cons, List.length_nil, List.reduceReplicate, Nat.reduceSub, Nat.reduceAdd, Nat.zero_add, Bool.not_true, Bool.not_false, if_true, if_false, reduceIte, Bool.false_eq_true, reduceCtorEq, datas, Option.map_some, Option.bind_some, e_add, e_sub, e_lt, e_le, e_gt, e_ge, e_eqI, e_eqB, e_neI, e_neT, e_lenL, e_lenT, ixN43, ixN42, ixN41, ixN10, decide_true, decide_false, wipeD, lcome_eq hq.1 hn zq fl3 sg]
          have cb : (comesD q.2 s).length ≤ 30 := Nat.le_trans (comes_sub _ _).length_le (thD_len hq.1)
          have fb : (foundS (L.take j) s).length ≤ 65 := by
            have hv' : ∀ r ∈ L.take j, VG n r.2 := fun r hr => (hv r (List.mem_of_mem_take hr)).1
            have a1 := foundS_wt s hv'
            have a2 := tk_wt L j
            have a3 := wt_len (n := n) (L := foundS (L.take j) s) fun r hr => (foundS_vg (m := i) (fun p hp => hv p (List.mem_of_mem_take hp)) r hr).1
            omega
          refine lc_on (fun k M4 acc => M3 = M4 ∧ acc = (((comesD q.2 s).take k).map fun r => (q.1 ++ [r.1], r.2)).map flD) ?st3 ?fin3 ⟨rfl, by simp⟩
          case st3 =>
            rintro k it _ _ hk ⟨rfl, rfl⟩
            obtain ⟨e, he, rfl⟩ := its_at hk
            rw [List.getElem?_map] at he
            cases er : (comesD q.2 s)[k]? with
            | none => rw [er] at he; cases he
            | some r =>
              rw [er] at he
              cases he
              refine ⟨trivial, _, rfl, ?_⟩
              try simp only [onO_nx, onO_rt, onO_bad, onO_out, onO_ite, on_ite, onO_seq, onO_skip, onO_if, onO_ret, onO_set, onO_ex, onO_for, on_bindI, on_okI, on_badI, fCall, fCons, fNil, fPv, fC, fOp, fTest, fNotT, fAndT, fOrT, fAndV, fOrV, fNotV, fIf, fTup, fLst, fLstM, fSl, fPart, fNoP, fMethL, fNeg, fPut, fPar, fAsg, fYes, List.getElem?_cons_zero, List.getElem?_cons_succ, List.set_cons_zero, List.set_cons_succ, List.map_cons, List.map_nil, List.nil_append, List.cons_append, List.length_cons, List.length_nil, List.reduceReplicate, Nat.reduceSub, Nat.reduceAdd, Nat.zero_add, Bool.not_true, Bool.not_false, if_true, if_false, reduceIte, Bool.false_eq_true, reduceCtorEq, datas, Option.map_some, Option.bind_some, e_add, e_sub, e_lt, e_le, e_gt, e_ge, e_eqI, e_eqB, e_neI, e_neT, e_lenL, e_lenT, ixN43, ixN42, ixN41, ixN10, decide_true, decide_false, wipeD, show (1 : Nat) ≤ sizeLine from by decide, show (2 : Nat) ≤ sizeLine from by decide, oCatT]
              rw [if_pos (Nat.le_trans (show (q.1.map dK).length + 1 ≤ 100 by rw [List.length_map]; omega) (by decide))]
              try simp only [onO_nx, onO_rt, onO_bad, onO_out, onO_ite, on_ite, onO_seq, onO_skip, onO_if, onO_ret, onO_set, onO_ex, onO_for, on_bindI, on_okI, on_badI, fCall, fCons, fNil, fPv, fC, fOp, fTest, fNotT, fAndT, fOrT, fAndV, fOrV, fNotV, fIf, fTup, fLst, fLstM, fSl, fPart, fNoP, fMethL, fNeg, fPut, fPar, fAsg, fYes, List.getElem?_cons_zero, List.getElem?_cons_succ, List.set_cons_zero, List.set_cons_succ, List.map_cons, List.map_nil, List.nil_append, List.cons_append, List.length_cons, List.length_nil, List.reduceReplicate, Nat.reduceSub, Nat.reduceAdd, Nat.zero_add, Bool.not_true, Bool.not_false, if_true, if_false, reduceIte, Bool.false_eq_true, reduceCtorEq, datas, Option.map_some, Option.bind_some, e_add, e_sub, e_lt, e_le, e_gt, e_ge, e_eqI, e_eqB, e_neI, e_neT, e_lenL, e_lenT, ixN43, ixN42, ixN41, ixN10, decide_true, decide_false, show (2 : Nat) ≤ sizeLine from by decide]
              refine ⟨_, rfl, ?_, trivial, ?_⟩
              · rw [List.length_map, List.length_map, List.length_take]
                exact Nat.lt_of_le_of_lt (show _ ≤ 100 by omega) (by decide)
              · rw [take_succ_at er, List.map_append, List.map_append]
                congr 1
                simp [flD]
          case fin3 =>
            rintro _ _ ⟨rfl, rfl⟩
            rw [List.length_map, List.length_map, List.length_map, List.take_length]
            refine ⟨trivial, ?_⟩
            try simp only [onO_nx, onO_rt, onO_bad, onO_out, onO_ite, on_ite, onO_seq, onO_skip, onO_if, onO_ret, onO_set, onO_ex, onO_for, on_bindI, on_okI, on_badI, fCall, fCons, fNil, fPv, fC, fOp, fTest, fNotT, fAndT, fOrT, fAndV, fOrV, fNotV, fIf, fTup, fLst, fLstM, fSl, fPart, fNoP, fMethL, fNeg, fPut, fPar, fAsg, fYes, List.getElem?_cons_zero, List.getElem?_cons_succ, List.set_cons_zero, List.set_cons_succ, List.map_cons, List.map_nil, List.nil_append, List.cons_append, List.length_cons, List.length_nil, List.reduceReplicate, Nat.reduceSub, Nat.reduceAdd, Nat.zero_add, Bool.not_true, Bool.not_false, if_true, if_false, reduceIte, Bool.false_eq_true, reduceCtorEq, datas, Option.map_some, Option.bind_some, e_add, e_sub, e_lt, e_le, e_gt, e_ge, e_eqI, e_eqB, e_neI, e_neT, e_lenL, e_lenT, ixN43, ixN42, ixN41, ixN10, decide_true, decide_false]
            rw [e_ext k3 (by rw [List.length_map, List.length_map, List.length_map]; omega), ← List.map_append, ← foundS_snoc, ← take_succ_at eq]
            exact ⟨_, _, rfl, fr.trans (Fr.set (by simp)), fl3.set (fl_ds _), put4 k3⟩
      case fin2 =>
        rintro _ M3 ⟨y5, y6, rfl, fr, fl3, k3⟩
        rw [List.length_map, List.length_map, List.length_map, List.take_length] at k3
        refine ⟨ok [K] M3 fr lK, ?_⟩
        try simp only [onO_nx, onO_rt, onO_bad, onO_out, onO_ite, on_ite, onO_seq, onO_skip, onO_if, onO_ret, onO_set, onO_ex, onO_for, on_bindI, on_okI, on_badI, fCall, fCons, fNil, fPv, fC, fOp, fTest, fNotT, fAndT, fOrT, fAndV, fOrV, fNotV, fIf, fTup, fLst, fLstM, fSl, fPart, fNoP, fMethL, fNeg, fPut, fPar, fAsg, fYes, List.getElem?_cons_zero, List.getElem?_cons_succ, List.set_cons_zero, List.set_cons_succ, List.map_cons, List.map_nil, List.nil_append, List.cons_append, List.length_cons, List.length_nil, List.reduceReplicate, Nat.reduceSub, Nat.reduceAdd, Nat.zero_add, Bool.not_true, Bool.not_false, if_true, if_false, reduceIte, Bool.false_eq_true, reduceCtorEq, datas, Option.map_some, Option.bind_some, e_add, e_sub, e_lt, e_le, e_gt, e_ge, e_eqI, e_eqB, e_neI, e_neT, e_lenL, e_lenT, ixN43, ixN42, ixN41, ixN10, decide_true, decide_false]
        refine ⟨_, some K, _, _, _, _, rfl, .inr ⟨K, rfl, rfl, by rw [eL]; exact k3⟩, fun j hj => by cases hj; exact KM, (up.app _).fr fr (by simpa using KM), fl3⟩
  case fin =>
    rintro _ M1 ⟨w, l, x3, x4, x5, x6, rfl, wl, hl0, up, fl1⟩
    rw [List.length_map, List.length_map, List.length_map, List.take_length] at wl
    refine ⟨trivial, ?_⟩
    try simp only [onO_nx, onO_rt, onO_bad, onO_out, onO_ite, on_ite, onO_seq, onO_skip, onO_if, onO_ret, onO_set, onO_ex, onO_for, on_bindI, on_okI, on_badI, fCall, fCons, fNil, fPv, fC, fOp, fTest, fNotT, fAndT, fOrT, fAndV, fOrV, fNotV, fIf, fTup, fLst, fLstM, fSl, fPart, fNoP, fMethL, fNeg, fPut, fPar, fAsg, fYes, List.getElem?_cons_zero, List.getElem?_cons_succ, List.set_cons_zero, List.set_cons_succ, List.map_cons, List.map_nil, List.nil_append, List.cons_append, List.length_cons, List.length_nil, List.reduceReplicate, Nat.reduceSub, Nat.reduceAdd, Nat.zero_add, Bool.not_true, Bool.not_false, if_true, if_false, reduceIte, Bool.false_eq_true, reduceCtorEq, datas, Option.map_some, Option.bind_some, e_add, e_sub, e_lt, e_le, e_gt, e_ge, e_eqI, e_eqB, e_neI, e_neT, e_lenL, e_lenT, ixN43, ixN42, ixN41, ixN10, decide_true, decide_false]
    refine fin_up (d := .list ((foundD d ss).map flD)) ?_ up fl1 ⟨rfl, rfl⟩
    rcases wl with ⟨rfl, _⟩ | ⟨j, rfl, e2, e3⟩
    · rfl
    · have := hl0 j e2
      simp only [frzW]
      rw [if_neg (by omega), e3]
      simp only [datas_d, Option.map_some]
end Fu

set_option Elab.async false
set_option linter.all false
set_option maxRecDepth 100000
set_option maxHeartbeats 1000000
/-! This law's own look at a place; places. -/
namespace Fu
open PySem PySem.Spec PyProof.Rows L2 Dat LamX PySem.W
def KOk : Key → Prop
  | .inl i => 0 ≤ i ∧ i ≤ 10 ^ 30
  | .inr w => w ∈ WQ
def kS : Key → Sp'
  | .inl i => .num i.toNat
  | .inr w => .fld w
theorem kS_ok {k : Key} (h : KOk k) : SpG (kS k) := by
  cases k with
  | inl i => show i.toNat ≤ 10 ^ 30; have h : 0 ≤ i ∧ i ≤ 10 ^ 30 := h; omega
  | inr w => exact h
theorem comes_k {d : PyData} {k : Key} (h : KOk k) : comesD d (kS k) = match getD (thD d) k with
    | some e => [(k, e)]
    | none => [] := by
  cases k with
  | inl i =>
    have h : 0 ≤ i ∧ i ≤ 10 ^ 30 := h
    simp only [kS, comesD, Int.toNat_of_nonneg h.1]
    try (cases getD (thD d) (Sum.inl i) <;> rfl)
  | inr w =>
    simp only [kS, comesD]
    try (cases getD (thD d) (Sum.inr w) <;> rfl)
theorem list_shaped {xs : List PyData} (h : ∀ x ∈ xs, okD x = true ∧ x.depth ≤ 62) : SeqAt.shaped (.list xs) = true := by
  unfold SeqAt.shaped
  have h1 : PyData.canLayAll0 xs = true := lays_ok _ (okDs_all.mpr fun x hx => (h x hx).1)
  have h2 : PyData.depthAll xs ≤ 62 := dAll_le fun x hx => (h x hx).2
  simp only [PyData.canLay0, PyData.depth, h1, Bool.true_and]
  exact decide_eq_true (by omega)
theorem eqv_nilL (xs : List PyData) : PyData.eqv (.list xs) (.list []) = xs.isEmpty := by
  cases xs <;> simp [PyData.eqv, PyData.eqvAll]
theorem eqv_nilT (xs : List PyData) : PyData.eqv (.tuple xs) (.tuple []) = xs.isEmpty := by
  cases xs <;> simp [PyData.eqv, PyData.eqvAll]
theorem lat_eq {n : Nat} {d : PyData} {ks : List Key} {M : Sto} (h : VG n d) (hn : n ≤ 15) (hz : szD d ≤ 13000) (fl : Flat M) (hk : ∀ k ∈ ks, KOk k) : F_lat [.d d, .d (.tuple (ks.map dK))] M = .ok (.d (.list (valAt d ks).toList)) M := by
  refine get_ok ?_
  unfold F_lat
  refine drop_on (fn_on rfl ?_)
  unfold B_lat
  try simp only [onO_nx, onO_rt, onO_bad, onO_out, onO_ite, on_ite, onO_seq, onO_skip, onO_if, onO_ret, onO_set, onO_ex, onO_for, on_bindI, on_okI, on_badI, fCall, fCons, fNil, fPv, fC, fOp, fTest, fNotT, fAndT, fOrT, fAndV, fOrV, fNotV, fIf, fTup, fLst, fLstM, fSl, fPart, fNoP, fMethL, fNeg, fPut, fPar, fAsg, fYes, List.getElem?_cons_zero, List.getElem?_cons_succ, List.set_cons_zero, List.set_cons_succ, List.map_cons, List.map_nil, List.nil_append, List.cons_append, List.length_cons, List.length_nil, List.reduceReplicate, Nat.reduceSub, Nat.reduceAdd, Nat.zero_add, Bool.not_true, Bool.not_false, if_true, if_false, reduceIte, Bool.false_eq_true, reduceCtorEq, datas, Option.map_some, Option.bind_some, e_add, e_sub, e_lt, e_le, e_gt, e_ge, e_eqI, e_eqB, e_neI, e_neT, e_lenL, e_lenT, ixN43, ixN42, ixN41, ixN10, decide_true, decide_false, fiT, show (1 : Nat) ≤ sizeLine from by decide]
  refine for_on (fun i sd M1 => ∃ x3 x4 cur, sd = [some (.d d), some (.d (.tuple (ks.map dK))), some (.d (.list [cur])), x3, x4, none] ∧ M = M1 ∧ VG n cur ∧ szD cur ≤ 13000 ∧ valAt d (ks.take i) = some cur) ?st ?fin ⟨none, none, d, rfl, rfl, h, hz, rfl⟩
  case st =>
    rintro i it _ _ hi ⟨x3, x4, cur, rfl, rfl, vc, zc, ev⟩
    obtain ⟨e, he, rfl⟩ := its_at hi
    rw [List.getElem?_map] at he
    cases ek : ks[i]? with
    | none => rw [ek] at he; cases he
    | some k =>
      rw [ek] at he
      cases he
      have kk := hk k (List.mem_of_getElem? ek)
      refine ⟨trivial, _, rfl, ?_⟩
      unfold B_lat_1
      have es : (fIf (fTest (fCall oIsi (fCons (fPv 3) (fCons (fC (.t "str")) fNil)))) (fTup (fCons (fC (.d (.str "field"))) (fCons (fPv 3) fNil))) (fTup (fCons (fC (.d (.str "at"))) (fCons (fPv 3) fNil)))
          [some (.d d), some (.d (.tuple (ks.map dK))), some (.d (.list [cur])), some (.d (dK k)), x4, none] M) = .ok (.d (spD (kS k))) M := by
        refine get_okA ?_
        try simp only [onO_nx, onO_rt, onO_bad, onO_out, onO_ite, on_ite, onO_seq, onO_skip, onO_if, onO_ret, onO_set, onO_ex, onO_for, on_bindI, on_okI, on_badI, fCall, fCons, fNil, fPv, fC, fOp, fTest, fNotT, fAndT, fOrT, fAndV, fOrV, fNotV, fIf, fTup, fLst, fLstM, fSl, fPart, fNoP, fMethL, fNeg, fPut, fPar, fAsg, fYes, List.getElem?_cons_zero, List.getElem?_cons_succ, List.set_cons_zero, List.set_cons_succ, List.map_cons, List.map_nil, List.nil_append, List.cons_append, List.length_cons, List.length_nil, List.reduceReplicate, Nat.reduceSub, Nat.reduceAdd, Nat.zero_add, Bool.not_true, Bool.not_false, if_true, if_false, reduceIte, Bool.false_eq_true, reduceCtorEq, datas, Option.map_some, Option.bind_some, e_add, e_sub, e_lt, e_le, e_gt, e_ge, e_eqI, e_eqB, e_neI, e_neT, e_lenL, e_lenT, ixN43, ixN42, ixN41, ixN10, decide_true, decide_false, isi_str, show (2 : Nat) ≤ sizeLine from by decide]
        cases k with
        | inl i =>
          have kk : 0 ≤ i ∧ i ≤ 10 ^ 30 := kk
          simp only [dK, isS, Bool.false_eq_true, if_false]
          refine ⟨?_, trivial⟩
          simp only [kS, spD, Int.toNat_of_nonneg kk.1]
        | inr w =>
          simp only [dK, isS, if_true]
          exact ⟨rfl, trivial⟩
      rw [onO_seq, onO_set]
      show ((fIf (fTest (fCall oIsi (fCons (fPv 3) (fCons (fC (.t "str")) fNil)))) (fTup (fCons (fC (.d (.str "field"))) (fCons (fPv 3) fNil))) (fTup (fCons (fC (.d (.str "at"))) (fCons (fPv 3) fNil)))
          [some (.d d), some (.d (.tuple (ks.map dK))), some (.d (.list [cur])), some (.d (dK k)), x4, none] M)).on _
      rw [es]
      have ix : oIxL (.d (.list [cur])) (.d (.int 0)) M = .ok (.d cur) M := ixLd at0
      try simp only [onO_nx, onO_rt, onO_bad, onO_out, onO_ite, on_ite, onO_seq, onO_skip, onO_if, onO_ret, onO_set, onO_ex, onO_for, on_bindI, on_okI, on_badI, fCall, fCons, fNil, fPv, fC, fOp, fTest, fNotT, fAndT, fOrT, fAndV, fOrV, fNotV, fIf, fTup, fLst, fLstM, fSl, fPart, fNoP, fMethL, fNeg, fPut, fPar, fAsg, fYes, List.getElem?_cons_zero, List.getElem?_cons_succ, List.set_cons_zero, List.set_cons_succ, List.map_cons, List.map_nil, List.nil_append, List.cons_append, List.length_cons, List.length_nil, List.reduceReplicate, Nat.reduceSub, Nat.reduceAdd, Nat.zero_add, Bool.not_true, Bool.not_false, if_true, if_false, reduceIte, Bool.false_eq_true, reduceCtorEq, datas, Option.map_some, Option.bind_some, e_add, e_sub, e_lt, e_le, e_gt, e_ge, e_eqI, e_eqB, e_neI, e_neT, e_lenL, e_lenT, ixN43, ixN42, ixN41, ixN10, decide_true, decide_false, ix, lcome_eq vc hn zc fl (kS_ok kk)]
      unfold fLc fiL
      try simp only [onO_nx, onO_rt, onO_bad, onO_out, onO_ite, on_ite, onO_seq, onO_skip, onO_if, onO_ret, onO_set, onO_ex, onO_for, on_bindI, on_okI, on_badI, fCall, fCons, fNil, fPv, fC, fOp, fTest, fNotT, fAndT, fOrT, fAndV, fOrV, fNotV, fIf, fTup, fLst, fLstM, fSl, fPart, fNoP, fMethL, fNeg, fPut, fPar, fAsg, fYes, List.getElem?_cons_zero, List.getElem?_cons_succ, List.set_cons_zero, List.set_cons_succ, List.map_cons, List.map_nil, List.nil_append, List.cons_append, List.length_cons, List.length_nil, List.reduceReplicate, Nat.reduceSub, Nat.reduceAdd, Nat.zero_add, Bool.not_true, Bool.not_false, if_true, if_false, reduceIte, Bool.false_eq_true, reduceCtorEq, datas, Option.map_some, Option.bind_some, e_add, e_sub, e_lt, e_le, e_gt, e_ge, e_eqI, e_eqB, e_neI, e_neT, e_lenL, e_lenT, ixN43, ixN42, ixN41, ixN10, decide_true, decide_false, wipeD, ix, lcome_eq vc hn zc fl (kS_ok kk)]
      refine lc_filter (g := prD) (r := fun q => q.2) (p := fun _ => true) (Nat.le_trans (comes_sub _ _).length_le (Nat.le_trans (thD_len vc) (by decide))) (fun q hq => rfl) (fun q hq => ?_) ?_
      · have j1 : oIxT (.d (prD q)) (.d (.int 1)) M = .ok (.d q.2) M := ixTd at1
        refine get_okA ?_
        try simp only [onO_nx, onO_rt, onO_bad, onO_out, onO_ite, on_ite, onO_seq, onO_skip, onO_if, onO_ret, onO_set, onO_ex, onO_for, on_bindI, on_okI, on_badI, fCall, fCons, fNil, fPv, fC, fOp, fTest, fNotT, fAndT, fOrT, fAndV, fOrV, fNotV, fIf, fTup, fLst, fLstM, fSl, fPart, fNoP, fMethL, fNeg, fPut, fPar, fAsg, fYes, List.getElem?_cons_zero, List.getElem?_cons_succ, List.set_cons_zero, List.set_cons_succ, List.map_cons, List.map_nil, List.nil_append, List.cons_append, List.length_cons, List.length_nil, List.reduceReplicate, Nat.reduceSub, Nat.reduceAdd, Nat.zero_add, Bool.not_true, Bool.not_false, if_true, if_false, reduceIte, Bool.false_eq_true, reduceCtorEq, datas, Option.map_some, Option.bind_some, e_add, e_sub, e_lt, e_le, e_gt, e_ge, e_eqI, e_eqB, e_neI, e_neT, e_lenL, e_lenT, ixN43, ixN42, ixN41, ixN10, decide_true, decide_false, j1]
        exact ⟨trivial, trivial⟩
      · rw [List.filter_eq_self.mpr fun _ _ => rfl]
        have ev2 : valAt d (ks.take (i + 1)) = getD (thD cur) k := by rw [take_succ_at ek, val_snoc, ev]; rfl
        rw [comes_k kk]
        try simp only [onO_nx, onO_rt, onO_bad, onO_out, onO_ite, on_ite, onO_seq, onO_skip, onO_if, onO_ret, onO_set, onO_ex, onO_for, on_bindI, on_okI, on_badI, fCall, fCons, fNil, fPv, fC, fOp, fTest, fNotT, fAndT, fOrT, fAndV, fOrV, fNotV, fIf, fTup, fLst, fLstM, fSl, fPart, fNoP, fMethL, fNeg, fPut, fPar, fAsg, fYes, List.getElem?_cons_zero, List.getElem?_cons_succ, List.set_cons_zero, List.set_cons_succ, List.map_cons, List.map_nil, List.nil_append, List.cons_append, List.length_cons, List.length_nil, List.reduceReplicate, Nat.reduceSub, Nat.reduceAdd, Nat.zero_add, Bool.not_true, Bool.not_false, if_true, if_false, reduceIte, Bool.false_eq_true, reduceCtorEq, datas, Option.map_some, Option.bind_some, e_add, e_sub, e_lt, e_le, e_gt, e_ge, e_eqI, e_eqB, e_neI, e_neT, e_lenL, e_lenT, ixN43, ixN42, ixN41, ixN10, decide_true, decide_false, show (0 : Nat) ≤ sizeLine from by decide]
        cases eg : getD (thD cur) k with
        | none =>
          simp only [List.map_nil]
          rw [e_eqD (by rw [list_shaped (xs := []) (by simp)]; rfl), eqv_nilL]
          try simp only [onO_nx, onO_rt, onO_bad, onO_out, onO_ite, on_ite, onO_seq, onO_skip, onO_if, onO_ret, onO_set, onO_ex, onO_for, on_bindI, on_okI, on_badI, fCall, fCons, fNil, fPv, fC, fOp, fTest, fNotT, fAndT, fOrT, fAndV, fOrV, fNotV, fIf, fTup, fLst, fLstM, fSl, fPart, fNoP, fMethL, fNeg, fPut, fPar, fAsg, fYes, List.getElem?_cons_zero, List.getElem?_cons_succ, List.set_cons_zero, List.set_cons_succ, List.map_cons, List.map_nil, List.nil_append, List.cons_append, List.length_cons, List.length_nil, List.reduceReplicate, Nat.reduceSub, Nat.reduceAdd, Nat.zero_add, Bool.not_true, Bool.not_false, if_true, if_false, reduceIte, Bool.false_eq_true, reduceCtorEq, datas, Option.map_some, Option.bind_some, e_add, e_sub, e_lt, e_le, e_gt, e_ge, e_eqI, e_eqB, e_neI, e_neT, e_lenL, e_lenT, ixN43, ixN42, ixN41, ixN10, decide_true, decide_false, List.isEmpty_nil]
          refine fin_same fl ⟨?_, rfl⟩
          rw [val_cut (i := i + 1) (by rw [ev2, eg])]
          rfl
        | some v =>
          have hv := thD_vg vc _ (getD_mem eg)
          have ok : okD v = true ∧ v.depth ≤ 3 * n := vg_ok hv.1
          simp only [List.map_cons, List.map_nil]
          rw [e_eqD (by rw [list_shaped (xs := [v]) (by intro x hx; rw [List.mem_singleton.mp hx]; exact ⟨ok.1, by have := ok.2; omega⟩), list_shaped (xs := []) (by simp)]; rfl), eqv_nilL]
          try simp only [onO_nx, onO_rt, onO_bad, onO_out, onO_ite, on_ite, onO_seq, onO_skip, onO_if, onO_ret, onO_set, onO_ex, onO_for, on_bindI, on_okI, on_badI, fCall, fCons, fNil, fPv, fC, fOp, fTest, fNotT, fAndT, fOrT, fAndV, fOrV, fNotV, fIf, fTup, fLst, fLstM, fSl, fPart, fNoP, fMethL, fNeg, fPut, fPar, fAsg, fYes, List.getElem?_cons_zero, List.getElem?_cons_succ, List.set_cons_zero, List.set_cons_succ, List.map_cons, List.map_nil, List.nil_append, List.cons_append, List.length_cons, List.length_nil, List.reduceReplicate, Nat.reduceSub, Nat.reduceAdd, Nat.zero_add, Bool.not_true, Bool.not_false, if_true, if_false, reduceIte, Bool.false_eq_true, reduceCtorEq, datas, Option.map_some, Option.bind_some, e_add, e_sub, e_lt, e_le, e_gt, e_ge, e_eqI, e_eqB, e_neI, e_neT, e_lenL, e_lenT, ixN43, ixN42, ixN41, ixN10, decide_true, decide_false, List.isEmpty_cons]
          refine ⟨_, _, v, rfl, trivial, hv.1, ?_, by rw [ev2, eg]⟩
          have a1 := wt_mem (getD_mem eg)
          have a2 := th_sz vc
          simp only at a1
          omega
  case fin =>
    rintro _ _ ⟨x3, x4, cur, rfl, rfl, vc, zc, ev⟩
    rw [List.length_map, List.length_map, List.length_map, List.take_length] at ev
    refine ⟨trivial, ?_⟩
    try simp only [onO_nx, onO_rt, onO_bad, onO_out, onO_ite, on_ite, onO_seq, onO_skip, onO_if, onO_ret, onO_set, onO_ex, onO_for, on_bindI, on_okI, on_badI, fCall, fCons, fNil, fPv, fC, fOp, fTest, fNotT, fAndT, fOrT, fAndV, fOrV, fNotV, fIf, fTup, fLst, fLstM, fSl, fPart, fNoP, fMethL, fNeg, fPut, fPar, fAsg, fYes, List.getElem?_cons_zero, List.getElem?_cons_succ, List.set_cons_zero, List.set_cons_succ, List.map_cons, List.map_nil, List.nil_append, List.cons_append, List.length_cons, List.length_nil, List.reduceReplicate, Nat.reduceSub, Nat.reduceAdd, Nat.zero_add, Bool.not_true, Bool.not_false, if_true, if_false, reduceIte, Bool.false_eq_true, reduceCtorEq, datas, Option.map_some, Option.bind_some, e_add, e_sub, e_lt, e_le, e_gt, e_ge, e_eqI, e_eqB, e_neI, e_neT, e_lenL, e_lenT, ixN43, ixN42, ixN41, ixN10, decide_true, decide_false]
    exact fin_same fl ⟨by rw [ev]; rfl, rfl⟩
/-! ### places -/
theorem cut_map {α β : Type} (g : α → β) (xs : List α) (a b : Option Int) : cutL (xs.map g) a b = (cutL xs a b).map g := by
  unfold cutL
  rw [List.length_map, ← List.map_drop, ← List.map_take]
theorem cut_mem {α : Type} {xs : List α} {a b : Option Int} : ∀ x ∈ cutL xs a b, x ∈ xs := fun x hx => List.mem_of_mem_drop (List.mem_of_mem_take hx)
theorem cut_len {α : Type} (xs : List α) (a b : Option Int) : (cutL xs a b).length ≤ xs.length := by
  unfold cutL
  rw [List.length_take, List.length_drop]
  omega
def plD (ks : List Key) : PyData := .tuple (ks.map dK)
theorem key_ok {k : Key} (h : KOk k) : okD (dK k) = true ∧ (dK k).depth = 0 ∧ szD (dK k) = 200 := by
  cases k with
  | inl i =>
    have h : 0 ≤ i ∧ i ≤ 10 ^ 30 := h
    refine ⟨?_, by simp [dK, PyData.depth], by simp [dK, szD]⟩
    simp only [dK, okD, decide_eq_true_eq]
    have : (2 : Nat) ^ 140 = 1393796574908163946345982392040522594123776 := rfl
    omega
  | inr w => exact ⟨wq_ok w h, by simp [dK, PyData.depth], by simp [dK, szD]⟩
theorem pl_data {ks : List Key} (h : ∀ k ∈ ks, KOk k) (hl : ks.length ≤ 100) : okD (plD ks) = true ∧ (plD ks).depth ≤ 1 := by
  refine ⟨ok_tup (by rw [List.length_map]; exact hl) fun y hy => ?_, dep_tup fun y hy => ?_⟩
  · obtain ⟨k, hk, rfl⟩ := List.mem_map.mp hy
    exact (key_ok (h k hk)).1
  · obtain ⟨k, hk, rfl⟩ := List.mem_map.mp hy
    rw [(key_ok (h k hk)).2.1]
    exact Nat.le_refl _
theorem e_mul2 {ks : List Key} {M : Sto} (hl : ks.length ≤ 100) : oMulT (.d (plD ks)) (.d (.int 2)) M = .ok (.d (plD (ks ++ ks))) M := by
  unfold oMulT plD
  cases ks with
  | nil => rfl
  | cons k ks =>
    simp only [List.map_cons]
    rw [if_pos (by decide), if_pos ⟨by decide, by decide, by simp at hl ⊢; omega⟩]
    simp
theorem e_cat {ks js : List Key} {M : Sto} (h : ks.length + js.length ≤ 1000) : oCatT (.d (plD ks)) (.d (plD js)) M = .ok (.d (plD (ks ++ js))) M := by
  unfold oCatT plD
  simp only
  rw [if_pos (by rw [List.length_map, List.length_map]; exact Nat.le_trans h (by decide)), List.map_append]
theorem e_slT {ks : List Key} {a b : Option Int} {M : Sto} : oSlT (.d (plD ks)) a b M = .ok (.d (plD (cutL ks a b))) M := by
  unfold oSlT plD
  simp only
  rw [cut_map]
theorem e_pow30 {M : Sto} : oPow (.d (.int 10)) (.d (.int 30)) M = .ok (.d (.int (10 ^ 30))) M := rfl
theorem places_on {M : Sto} {f n : Nat} {ks : List Key} (hf : Feed M f n) (hM : Flat M) (hn : n + 10 ≤ 999999000) (hk : ∀ k ∈ ks, KOk k) (hl : ks.length ≤ 20) :
    (F_lplaces [.r f, .d (plD ks)] M).on fun w M' => ∃ pls : List (List Key), w = .d (.list (pls.map plD)) ∧ (∀ js ∈ pls, ∀ k ∈ js, KOk k) ∧ pls.length ≤ 16 ∧ Feed M' f (n + 1) ∧ Fr [f] M M' ∧ Flat M' := by
  unfold F_lplaces
  refine drop_on (fn_on rfl ?_)
  unfold B_lplaces
  have z0 : KOk (.inl 0) := ⟨by decide, by decide⟩
  have za : KOk (.inr "a") := by show ("a" : Str) ∈ WQ; simp [WQ]
  have zq : KOk (.inr "q") := by show ("q" : Str) ∈ WQ; simp [WQ]
  have c0 : (PyData.tuple [.int 0]) = plD [.inl 0] := rfl
  have ca : (PyData.tuple [.str "a"]) = plD [.inr "a"] := rfl
  try simp only [onO_nx, onO_rt, onO_bad, onO_out, onO_ite, on_ite, onO_seq, onO_skip, onO_if, onO_ret, onO_set, onO_ex, onO_for, on_bindI, on_okI, on_badI, fCall, fCons, fNil, fPv, fC, fOp, fTest, fNotT, fAndT, fOrT, fAndV, fOrV, fNotV, fIf, fTup, fLst, fLstM, fSl, fPart, fNoP, fMethL, fNeg, fPut, fPar, fAsg, fYes, List.getElem?_cons_zero, List.getElem?_cons_succ, List.set_cons_zero, List.set_cons_succ, List.map_cons, List.map_nil, List.nil_append, List.cons_append, List.length_cons, List.length_nil, List.reduceReplicate, Nat.reduceSub, Nat.reduceAdd, Nat.zero_add, Bool.not_true, Bool.not_false, if_true, if_false, reduceIte, Bool.false_eq_true, reduceCtorEq, datas, Option.map_some, Option.bind_some, e_add, e_sub, e_lt, e_le, e_gt, e_ge, e_eqI, e_eqB, e_neI, e_neT, e_lenL, e_lenT, ixN43, ixN42, ixN41, ixN10, decide_true, decide_false, e_slT, e_mul2 (M := M) (show ks.length ≤ 100 by omega), show (1 : Nat) ≤ sizeLine from by decide, show (2 : Nat) ≤ sizeLine from by decide, show (0 : Nat) ≤ sizeLine from by decide, show (10 : Nat) ≤ sizeLine from by decide]
  rw [c0, e_cat (by simp; omega), on_okI, ca, e_cat (by simp; omega), on_okI]
  try simp only [onO_nx, onO_rt, onO_bad, onO_out, onO_ite, on_ite, onO_seq, onO_skip, onO_if, onO_ret, onO_set, onO_ex, onO_for, on_bindI, on_okI, on_badI, fCall, fCons, fNil, fPv, fC, fOp, fTest, fNotT, fAndT, fOrT, fAndV, fOrV, fNotV, fIf, fTup, fLst, fLstM, fSl, fPart, fNoP, fMethL, fNeg, fPut, fPar, fAsg, fYes, List.getElem?_cons_zero, List.getElem?_cons_succ, List.set_cons_zero, List.set_cons_succ, List.map_cons, List.map_nil, List.nil_append, List.cons_append, List.length_cons, List.length_nil, List.reduceReplicate, Nat.reduceSub, Nat.reduceAdd, Nat.zero_add, Bool.not_true, Bool.not_false, if_true, if_false, reduceIte, Bool.false_eq_true, reduceCtorEq, datas, Option.map_some, Option.bind_some, e_add, e_sub, e_lt, e_le, e_gt, e_ge, e_eqI, e_eqB, e_neI, e_neT, e_lenL, e_lenT, ixN43, ixN42, ixN41, ixN10, decide_true, decide_false, e_slT, e_mul2 (M := M) (show ks.length ≤ 100 by omega), show (1 : Nat) ≤ sizeLine from by decide, show (2 : Nat) ≤ sizeLine from by decide, show (0 : Nat) ≤ sizeLine from by decide, show (10 : Nat) ≤ sizeLine from by decide]
  generalize hL : M.length = L
  have eP : ([.d (plD ks), .d (plD (cutL ks (some 1) none)), .d (plD (cutL ks none (some (-1)))), .d (plD (ks ++ [.inl 0])), .d (plD (ks ++ [.inr "a"])), .d (plD (ks ++ ks)), .d (.tuple []), .d (plD [.inl 0]), .d (.tuple [.str "q"]), .d (.tuple [.str "a", .int 0])] : List Wv)
      = (([ks, cutL ks (some 1) none, cutL ks none (some (-1)), ks ++ [.inl 0], ks ++ [.inr "a"], ks ++ ks, [], [.inl 0], [.inr "q"], [.inr "a", .inl 0]] : List (List Key)).map plD).map Wv.d := rfl
  rw [eP]
  generalize hB : ([ks, cutL ks (some 1) none, cutL ks none (some (-1)), ks ++ [.inl 0], ks ++ [.inr "a"], ks ++ ks, [], [.inl 0], [.inr "q"], [.inr "a", .inl 0]] : List (List Key)) = B
  have kB : (∀ js ∈ B, ∀ k ∈ js, KOk k) ∧ B.length = 10 := by
    rw [← hB]
    refine ⟨fun js hjs k hkj => ?_, rfl⟩
    simp only [List.mem_cons, List.not_mem_nil, or_false] at hjs
    rcases hjs with rfl | rfl | rfl | rfl | rfl | rfl | rfl | rfl | rfl | rfl
    · exact hk k hkj
    · exact hk k (cut_mem k hkj)
    · exact hk k (cut_mem k hkj)
    · rcases List.mem_append.mp hkj with z | z
      · exact hk k z
      · rw [List.mem_singleton.mp z]; exact z0
    · rcases List.mem_append.mp hkj with z | z
      · exact hk k z
      · rw [List.mem_singleton.mp z]; exact za
    · rcases List.mem_append.mp hkj with z | z
      · exact hk k z
      · exact hk k z
    · cases hkj
    · rw [List.mem_singleton.mp hkj]; exact z0
    · rw [List.mem_singleton.mp hkj]; exact zq
    · simp only [List.mem_cons, List.not_mem_nil, or_false] at hkj
      rcases hkj with rfl | rfl
      · exact za
      · exact z0
  generalize hM1 : M ++ [Ob.lst ((B.map plD).map Wv.d)] = M1
  have f1 : Feed M1 f n := by rw [← hM1]; exact hf.app
  have fl1 : Flat M1 := by rw [← hM1]; exact hM.app (fl_ds _)
  have l1 : M1[L]? = some (.lst ((B.map plD).map .d)) := by rw [← hM1, ← hL]; exact at_new
  have fL : f < L := by rw [← hL]; exact hf.lt
  have pd := pl_data hk (by omega)
  have ne0 : oEqD true (.d (plD ks)) (.d (.tuple [])) M1 = .ok (.d (.bool !ks.isEmpty)) M1 := by
    rw [e_neD (by rw [shaped_ok pd.1 (by have := pd.2; omega), shaped_ok (d := .tuple []) (by simp [okD, okDs]) (by simp [PyData.depth, PyData.depthAll])]; rfl)]
    rw [plD, eqv_nilT, List.isEmpty_map]
  have last : ∀ (M5 : Sto) (m : Nat) (C : List (List Key)), Feed M5 f m → m ≤ n + 1 → Fr [f, L] M1 M5 → Flat M5 → M5[L]? = some (.lst ((C.map plD).map .d)) → (∀ js ∈ C, ∀ k ∈ js, KOk k) → C.length ≤ 16 →
      DropP M (fun w M' => ∃ pls : List (List Key), w = .d (.list (pls.map plD)) ∧ (∀ js ∈ pls, ∀ k ∈ js, KOk k) ∧ pls.length ≤ 16 ∧ Feed M' f (n + 1) ∧ Fr [f] M M' ∧ Flat M') (.r L) M5 := by
    intro M5 m C fd hm fr fl5 l5 kC lC
    have fr' : Fr [f, L] (M ++ [Ob.lst ((B.map plD).map Wv.d)]) M5 := by rw [hM1]; exact fr
    refine ⟨.list (C.map plD), ?_, by rw [fr'.len, List.length_append]; omega, fl5, C, rfl, kC, lC, (fd.up hm).take hf.lt, fr'.back' (fun x hx hz => ?_), fl5.take _⟩
    · simp only [frzW]
      rw [if_neg (by omega), l5]
      simp only [datas_d, Option.map_some]
    · simp only [List.mem_cons, List.not_mem_nil, or_false] at hx ⊢
      omega
  rw [ne0]
  try simp only [onO_nx, onO_rt, onO_bad, onO_out, onO_ite, on_ite, onO_seq, onO_skip, onO_if, onO_ret, onO_set, onO_ex, onO_for, on_bindI, on_okI, on_badI, fCall, fCons, fNil, fPv, fC, fOp, fTest, fNotT, fAndT, fOrT, fAndV, fOrV, fNotV, fIf, fTup, fLst, fLstM, fSl, fPart, fNoP, fMethL, fNeg, fPut, fPar, fAsg, fYes, List.getElem?_cons_zero, List.getElem?_cons_succ, List.set_cons_zero, List.set_cons_succ, List.map_cons, List.map_nil, List.nil_append, List.cons_append, List.length_cons, List.length_nil, List.reduceReplicate, Nat.reduceSub, Nat.reduceAdd, Nat.zero_add, Bool.not_true, Bool.not_false, if_true, if_false, reduceIte, Bool.false_eq_true, reduceCtorEq, datas, Option.map_some, Option.bind_some, e_add, e_sub, e_lt, e_le, e_gt, e_ge, e_eqI, e_eqB, e_neI, e_neT, e_lenL, e_lenT, ixN43, ixN42, ixN41, ixN10, decide_true, decide_false]
  by_cases he : ks = []
  · have e1 : ks.isEmpty = true := by simp [he]
    simp only [e1, Bool.not_true, Bool.false_eq_true, if_false]
    unfold B_lplaces_2
    try simp only [onO_nx, onO_rt, onO_bad, onO_out, onO_ite, on_ite, onO_seq, onO_skip, onO_if, onO_ret, onO_set, onO_ex, onO_for, on_bindI, on_okI, on_badI, fCall, fCons, fNil, fPv, fC, fOp, fTest, fNotT, fAndT, fOrT, fAndV, fOrV, fNotV, fIf, fTup, fLst, fLstM, fSl, fPart, fNoP, fMethL, fNeg, fPut, fPar, fAsg, fYes, List.getElem?_cons_zero, List.getElem?_cons_succ, List.set_cons_zero, List.set_cons_succ, List.map_cons, List.map_nil, List.nil_append, List.cons_append, List.length_cons, List.length_nil, List.reduceReplicate, Nat.reduceSub, Nat.reduceAdd, Nat.zero_add, Bool.not_true, Bool.not_false, if_true, if_false, reduceIte, Bool.false_eq_true, reduceCtorEq, datas, Option.map_some, Option.bind_some, e_add, e_sub, e_lt, e_le, e_gt, e_ge, e_eqI, e_eqB, e_neI, e_neT, e_lenL, e_lenT, ixN43, ixN42, ixN41, ixN10, decide_true, decide_false]
    exact last M1 n B f1 (by omega) (Fr.refl _ _) fl1 l1 kB.1 (by rw [kB.2]; omega)
  · have e1 : ks.isEmpty = false := by simp [he]
    have kl : 0 < ks.length := List.length_pos_iff.mpr he
    simp only [e1, Bool.not_false, if_true]
    rw [show plD ks = .tuple (ks.map dK) from rfl]
    try simp only [onO_nx, onO_rt, onO_bad, onO_out, onO_ite, on_ite, onO_seq, onO_skip, onO_if, onO_ret, onO_set, onO_ex, onO_for, on_bindI, on_okI, on_badI, fCall, fCons, fNil, fPv, fC, fOp, fTest, fNotT, fAndT, fOrT, fAndV, fOrV, fNotV, fIf, fTup, fLst, fLstM, fSl, fPart, fNoP, fMethL, fNeg, fPut, fPar, fAsg, fYes, List.getElem?_cons_zero, List.getElem?_cons_succ, List.set_cons_zero, List.set_cons_succ, List.map_cons, List.map_nil, List.nil_append, List.cons_append, List.length_cons, List.length_nil, List.reduceReplicate, Nat.reduceSub, Nat.reduceAdd, Nat.zero_add, Bool.not_true, Bool.not_false, if_true, if_false, reduceIte, Bool.false_eq_true, reduceCtorEq, datas, Option.map_some, Option.bind_some, e_add, e_sub, e_lt, e_le, e_gt, e_ge, e_eqI, e_eqB, e_neI, e_neT, e_lenL, e_lenT, ixN43, ixN42, ixN41, ixN10, decide_true, decide_false, fiT, e_pow30, show (6 : Nat) ≤ sizeLine from by decide]
    refine on_imp (draw_on f1 fl1 (by rw [List.length_map]; omega) (by rw [List.length_map]; omega) (by omega)) ?_
    rintro _ M2 ⟨r, rfl, r0, r1, fd2, fr2, fl2⟩
    try simp only [onO_nx, onO_rt, onO_bad, onO_out, onO_ite, on_ite, onO_seq, onO_skip, onO_if, onO_ret, onO_set, onO_ex, onO_for, on_bindI, on_okI, on_badI, fCall, fCons, fNil, fPv, fC, fOp, fTest, fNotT, fAndT, fOrT, fAndV, fOrV, fNotV, fIf, fTup, fLst, fLstM, fSl, fPart, fNoP, fMethL, fNeg, fPut, fPar, fAsg, fYes, List.getElem?_cons_zero, List.getElem?_cons_succ, List.set_cons_zero, List.set_cons_succ, List.map_cons, List.map_nil, List.nil_append, List.cons_append, List.length_cons, List.length_nil, List.reduceReplicate, Nat.reduceSub, Nat.reduceAdd, Nat.zero_add, Bool.not_true, Bool.not_false, if_true, if_false, reduceIte, Bool.false_eq_true, reduceCtorEq, datas, Option.map_some, Option.bind_some, e_add, e_sub, e_lt, e_le, e_gt, e_ge, e_eqI, e_eqB, e_neI, e_neT, e_lenL, e_lenT, ixN43, ixN42, ixN41, ixN10, decide_true, decide_false, fiT, e_pow30, show (6 : Nat) ≤ sizeLine from by decide]
    generalize hmk : ([.inl 0, .inl 1, .inl 5, .inr "a", .inr "k", .inl (10 ^ 30)] : List Key) = mk
    have kmk : (∀ k ∈ mk, KOk k) ∧ mk.length = 6 := by
      rw [← hmk]
      refine ⟨fun k hk => ?_, rfl⟩
      simp only [List.mem_cons, List.not_mem_nil, or_false] at hk
      rcases hk with rfl | rfl | rfl | rfl | rfl | rfl
      · exact z0
      · exact ⟨by decide, by decide⟩
      · exact ⟨by decide, by decide⟩
      · exact za
      · show ("k" : Str) ∈ WQ; simp [WQ]
      · exact ⟨by decide, by decide⟩
    have em : ([Itm.one (.d (.int 0)), .one (.d (.int 1)), .one (.d (.int 5)), .one (.d (.str "a")), .one (.d (.str "k")), .one (.d (.int (10 ^ 30)))] : List Itm) = ((mk.map dK).map Wv.d).map Itm.one := by rw [← hmk]; rfl
    rw [em]
    have l2 : M2[L]? = some (.lst ((B.map plD).map .d)) := fr2.get l1 (by simp; omega)
    refine for_on (fun i sd M3 => ∃ x C, sd = [some (.r f), some (.d (plD ks)), some (.r L), some (.d (.int r)), x] ∧ Fr [f, L] M1 M3 ∧ Feed M3 f (n + 1) ∧ Flat M3 ∧ M3[L]? = some (.lst ((C.map plD).map .d)) ∧ (∀ js ∈ C, ∀ k ∈ js, KOk k) ∧ C.length ≤ 10 + i) ?st ?fin
      ⟨none, B, rfl, fr2.wide (by simp), fd2, fl2, l2, kB.1, by rw [kB.2]; omega⟩
    case st =>
      rintro i it _ M3 hi ⟨x, C, rfl, fr3, fd3, fl3, l3, kC, lC⟩
      obtain ⟨e, he, rfl⟩ := its_at hi
      rw [List.getElem?_map] at he
      cases ek : mk[i]? with
      | none => rw [ek] at he; cases he
      | some k =>
        rw [ek] at he
        cases he
        have hi6 : i < 6 := by have := (List.getElem?_eq_some_iff.mp ek).1; rw [kmk.2] at this; exact this
        refine ⟨trivial, _, rfl, ?_⟩
        unfold B_lplaces_1
        try simp only [onO_nx, onO_rt, onO_bad, onO_out, onO_ite, on_ite, onO_seq, onO_skip, onO_if, onO_ret, onO_set, onO_ex, onO_for, on_bindI, on_okI, on_badI, fCall, fCons, fNil, fPv, fC, fOp, fTest, fNotT, fAndT, fOrT, fAndV, fOrV, fNotV, fIf, fTup, fLst, fLstM, fSl, fPart, fNoP, fMethL, fNeg, fPut, fPar, fAsg, fYes, List.getElem?_cons_zero, List.getElem?_cons_succ, List.set_cons_zero, List.set_cons_succ, List.map_cons, List.map_nil, List.nil_append, List.cons_append, List.length_cons, List.length_nil, List.reduceReplicate, Nat.reduceSub, Nat.reduceAdd, Nat.zero_add, Bool.not_true, Bool.not_false, if_true, if_false, reduceIte, Bool.false_eq_true, reduceCtorEq, datas, Option.map_some, Option.bind_some, e_add, e_sub, e_lt, e_le, e_gt, e_ge, e_eqI, e_eqB, e_neI, e_neT, e_lenL, e_lenT, ixN43, ixN42, ixN41, ixN10, decide_true, decide_false, lstW_at l3, e_slT, show (1 : Nat) ≤ sizeLine from by decide]
        have c1 := cut_len ks none (some r)
        have c2 := cut_len ks (some (r + 1)) none
        rw [show PyData.tuple [dK k] = plD [k] from rfl, e_cat (by simp; omega), on_okI, e_cat (by rw [List.length_append]; simp; omega), on_okI]
        rw [e_app l3 (Nat.lt_of_le_of_lt (show ((C.map plD).map Wv.d).length ≤ 16 by rw [List.length_map, List.length_map]; omega) (by decide)), on_okI, map_snoc, map_snoc]
        refine ⟨_, C ++ [cutL ks none (some r) ++ [k] ++ cutL ks (some (r + 1)) none], rfl, fr3.trans (Fr.set (by simp)), fd3.fr (S := [L]) (Fr.set (by simp)) (by simp; omega), fl3.set (fl_ds _), put4 l3, fun js hjs q hq => ?_, by rw [List.length_append]; simp; omega⟩
        rcases List.mem_append.mp hjs with z | z
        · exact kC js z q hq
        · rw [List.mem_singleton.mp z] at hq
          rcases List.mem_append.mp hq with y | y
          · rcases List.mem_append.mp y with u | u
            · exact hk q (cut_mem q u)
            · rw [List.mem_singleton.mp u]; exact kmk.1 k (List.mem_of_getElem? ek)
          · exact hk q (cut_mem q y)
    case fin =>
      rintro _ M3 ⟨x, C, rfl, fr3, fd3, fl3, l3, kC, lC⟩
      rw [List.length_map, List.length_map, List.length_map, kmk.2] at lC
      refine ⟨trivial, ?_⟩
      unfold B_lplaces_2
      try simp only [onO_nx, onO_rt, onO_bad, onO_out, onO_ite, on_ite, onO_seq, onO_skip, onO_if, onO_ret, onO_set, onO_ex, onO_for, on_bindI, on_okI, on_badI, fCall, fCons, fNil, fPv, fC, fOp, fTest, fNotT, fAndT, fOrT, fAndV, fOrV, fNotV, fIf, fTup, fLst, fLstM, fSl, fPart, fNoP, fMethL, fNeg, fPut, fPar, fAsg, fYes, List.getElem?_cons_zero, List.getElem?_cons_succ, List.set_cons_zero, List.set_cons_succ, List.map_cons, List.map_nil, List.nil_append, List.cons_append, List.length_cons, List.length_nil, List.reduceReplicate, Nat.reduceSub, Nat.reduceAdd, Nat.zero_add, Bool.not_true, Bool.not_false, if_true, if_false, reduceIte, Bool.false_eq_true, reduceCtorEq, datas, Option.map_some, Option.bind_some, e_add, e_sub, e_lt, e_le, e_gt, e_ge, e_eqI, e_eqB, e_neI, e_neT, e_lenL, e_lenT, ixN43, ixN42, ixN41, ixN10, decide_true, decide_false]
      exact last M3 (n + 1) C fd3 (Nat.le_refl _) fr3 fl3 l3 kC (by omega)
end Fu

set_option Elab.async false
set_option linter.all false
set_option maxRecDepth 100000
set_option maxHeartbeats 1000000
/-! Drawn paths. -/
namespace Fu
open PySem PySem.Spec PyProof.Rows L2 Dat LamX PySem.W
theorem bind2 {a b : PyData} {w0 w1 w2 w3 w4 w5 w6 w7 w8 w9 w10 : Option Wv} : bindT (.tp [.nm 6, .nm 1]) (.one (.d (.tuple [a, b]))) [w0, w1, w2, w3, w4, w5, w6, w7, w8, w9, w10] = some [w0, some (.d b), w2, w3, w4, w5, some (.d a), w7, w8, w9, w10] := rfl
theorem vd_kids {d : PyData} {n : Nat} (h : VD n d) (t : isT d = true) : (∃ es : List (Str × PyData), ∃ m, n = m + 1 ∧ d = treeD es ∧ es.length ≤ 5 ∧ FieldsOk es ∧ ∀ e ∈ es, VD m e.2) ∨ ∃ ds : List PyData, ∃ m, n = m + 1 ∧ d = rowD ds ∧ ds.length ≤ 5 ∧ ∀ e ∈ ds, VD m e := by
  cases h with
  | plain h => rw [(pl_ok _ h).2.1] at t; cases t
  | row h1 h2 => exact .inr ⟨_, _, rfl, rfl, h1, h2⟩
  | tree h1 h2 h3 => exact .inl ⟨_, _, rfl, rfl, h1, h2, h3⟩
theorem vd_plain {d : PyData} {n : Nat} (h : VD n d) (t : isT d = false) : d ∈ PL := by
  cases h with
  | plain h => exact h
  | row h1 h2 => cases t
  | tree h1 h2 h3 => cases t
def kidsT : PyData → List PyData
  | .tuple [_, .tuple ds] => ds
  | _ => []
theorem inner_on {h : PyData} {n : Nat} {M : Sto} (hv : VD n h) (hn : n ≤ 10) (fl : Flat M) {sd : Slo} (h8 : sd[8]? = some (some (.d (.tuple (if isTr h = true then kidsT h else []))))) (hl : sd.length = 11) :
    (fLc (fiT (fPv 8)) (.nm 10) (fNotT (fTest (fCall oIsi (fCons (fOp oIxT (fPv 10) (fC (.d (.int 1)))) (fCons (fC (.t "tuple")) fNil))))) (fPv 10) [10] sd M).on fun w M' => M' = M ∧ ∃ es : List (Str × PyData), w = .d (.list (es.map pairD)) ∧ (∀ e ∈ es, e.1 ∈ WL ∧ e.2 ∈ PL) ∧ es.length ≤ 5 := by
  have key : ∀ es : List (Str × PyData), es.length ≤ 5 → (∀ e ∈ es, e.1 ∈ WL) → (∀ e ∈ es, ∃ m, VD m e.2) → sd[8]? = some (some (.d (.tuple (es.map pairD)))) →
      (fLc (fiT (fPv 8)) (.nm 10) (fNotT (fTest (fCall oIsi (fCons (fOp oIxT (fPv 10) (fC (.d (.int 1)))) (fCons (fC (.t "tuple")) fNil))))) (fPv 10) [10] sd M).on fun w M' => M' = M ∧ ∃ es : List (Str × PyData), w = .d (.list (es.map pairD)) ∧ (∀ e ∈ es, e.1 ∈ WL ∧ e.2 ∈ PL) ∧ es.length ≤ 5 := by
    intro es h5 hw hd e8
    unfold fLc fiT
    have p8 : fPv 8 sd M = .ok (.d (.tuple (es.map pairD))) M := by simp only [fPv, e8]
    simp only [p8, on_bindI, on_okI]
    have g : ∀ d : PyData, ((wipeD sd [10]).set 10 (some (.d d)))[10]? = some (some (.d d)) := fun d => by
      rw [List.getElem?_set_self]
      simp only [wipeD, List.length_set]
      omega
    have pv : ∀ d : PyData, fPv 10 ((wipeD sd [10]).set 10 (some (.d d))) M = .ok (.d d) M := fun d => by simp only [fPv, g]
    refine lc_filter (g := pairD) (r := pairD) (p := fun e => !isT e.2) (by omega) (fun e he => ?_) (fun e he => pv _) ?_
    · have j1 : oIxT (.d (pairD e)) (.d (.int 1)) M = .ok (.d e.2) M := ixTd at1
      simp only [fNotT, fTest, fCall, fCons, fOp, fC, fNil, pv, Res.bind, j1, isi_tup]
    · refine ⟨rfl, es.filter fun e => !isT e.2, rfl, fun e he => ?_, Nat.le_trans (List.length_filter_le _ _) h5⟩
      obtain ⟨h1, h2⟩ := List.mem_filter.mp he
      obtain ⟨m, hm⟩ := hd e h1
      exact ⟨hw e h1, vd_plain hm (by simpa using h2)⟩
  cases hv with
  | plain h =>
    rw [isTr_plain (pl_ok _ h).2.1] at h8
    exact key [] (by simp) (by simp) (by simp) h8
  | row _ _ =>
    rw [isTr_row] at h8
    exact key [] (by simp) (by simp) (by simp) h8
  | tree h1 h2 h3 =>
    rw [isTr_tree] at h8
    exact key _ h1 h2.pool (fun e he => ⟨_, h3 e he⟩) h8
theorem cat_whr {e : Str × PyData} {M : Sto} : oCatT (.d (.tuple [.str "where"])) (.d (pairD e)) M = .ok (.d (spD (.whr e.1 e.2))) M := by
  simp only [oCatT, pairD]
  exact if_pos (show (3 : Nat) ≤ sizeLine from by decide)
theorem kids_ite {g : PyData} {n : Nat} {M : Sto} {P : Wv → Sto → Prop} (hv : VD n g) (h : P (.d (.tuple (if isTr g = true then kidsT g else []))) M) : if isTr g = true then (oIxT (.d g) (.d (.int 1)) M).on P else P (.d (.tuple [])) M := by
  cases ht : isTr g with
  | false => rw [ht] at h; exact h
  | true =>
    rw [ht] at h
    rw [if_pos rfl]
    cases hv with
    | plain h => rw [isTr_plain (pl_ok _ h).2.1] at ht; cases ht
    | row _ _ => rw [isTr_row] at ht; cases ht
    | @tree n es _ _ _ =>
      have i1 : oIxT (.d (treeD es)) (.d (.int 1)) M = .ok (.d (.tuple (es.map pairD))) M := ixTd at1
      rw [i1]
      exact h
theorem path_on {M : Sto} {f n : Nat} {h0 : PyData} (hf : Feed M f n) (hM : Flat M) (hn : n + 100 ≤ 999999000) (hv0 : VD 4 h0) :
    (F_lpath [.r f, .d h0, .d (.int 5)] M).on fun w M' => ∃ ps : List Sp', w = .d (.tuple (ps.map spD)) ∧ (∀ p ∈ ps, SpOk p) ∧ ps.length ≤ 5 ∧ Feed M' f (n + 40) ∧ Fr [f] M M' ∧ Flat M' := by
  unfold F_lpath
  refine drop_on (fn_on rfl ?_)
  unfold B_lpath
  try simp only [onO_nx, onO_rt, onO_bad, onO_out, onO_ite, on_ite, onO_seq, onO_skip, onO_if, onO_ret, onO_set, onO_ex, onO_for, on_bindI, on_okI, on_badI, fCall, fCons, fNil, fPv, fC, fOp, fTest, fNotT, fAndT, fOrT, fAndV, fOrV, fNotV, fIf, fTup, fLst, fLstM, fSl, fPart, fNoP, fMethL, fNeg, fPut, fPar, fAsg, fYes, List.getElem?_cons_zero, List.getElem?_cons_succ, List.set_cons_zero, List.set_cons_succ, List.map_cons, List.map_nil, List.nil_append, List.cons_append, List.length_cons, List.length_nil, List.reduceReplicate, Nat.reduceSub, Nat.reduceAdd, Nat.zero_add, Bool.not_true, Bool.not_false, if_true, if_false, reduceIte, Bool.false_eq_true, reduceCtorEq, datas, Option.map_some, Option.bind_some, e_add, e_sub, e_lt, e_le, e_gt, e_ge, e_eqI, e_eqB, e_neI, e_neT, e_lenL, e_lenT, ixN43, ixN42, ixN41, ixN10, decide_true, decide_false, show (0 : Nat) ≤ sizeLine from by decide]
  generalize hS : M.length = S
  generalize hM1 : M ++ [Ob.lst []] = M1
  have f1 : Feed M1 f n := by rw [← hM1]; exact hf.app
  have fl1 : Flat M1 := by rw [← hM1]; exact hM.app (by intro w hw; cases hw)
  have l1 : M1[S]? = some (.lst ((([] : List Sp').map spD).map .d)) := by rw [← hM1, ← hS]; exact at_new
  have nSf : S ≠ f := by have := hf.lt; omega
  unfold fiR1
  try simp only [onO_nx, onO_rt, onO_bad, onO_out, onO_ite, on_ite, onO_seq, onO_skip, onO_if, onO_ret, onO_set, onO_ex, onO_for, on_bindI, on_okI, on_badI, fCall, fCons, fNil, fPv, fC, fOp, fTest, fNotT, fAndT, fOrT, fAndV, fOrV, fNotV, fIf, fTup, fLst, fLstM, fSl, fPart, fNoP, fMethL, fNeg, fPut, fPar, fAsg, fYes, List.getElem?_cons_zero, List.getElem?_cons_succ, List.set_cons_zero, List.set_cons_succ, List.map_cons, List.map_nil, List.nil_append, List.cons_append, List.length_cons, List.length_nil, List.reduceReplicate, Nat.reduceSub, Nat.reduceAdd, Nat.zero_add, Bool.not_true, Bool.not_false, if_true, if_false, reduceIte, Bool.false_eq_true, reduceCtorEq, datas, Option.map_some, Option.bind_some, e_add, e_sub, e_lt, e_le, e_gt, e_ge, e_eqI, e_eqB, e_neI, e_neT, e_lenL, e_lenT, ixN43, ixN42, ixN41, ixN10, decide_true, decide_false]
  refine on_imp (draw_on f1 fl1 (by omega) (by omega) (by omega)) ?_
  rintro _ M2 ⟨r, rfl, r0, r1, fd2, fr2, fl2⟩
  try simp only [onO_nx, onO_rt, onO_bad, onO_out, onO_ite, on_ite, onO_seq, onO_skip, onO_if, onO_ret, onO_set, onO_ex, onO_for, on_bindI, on_okI, on_badI, fCall, fCons, fNil, fPv, fC, fOp, fTest, fNotT, fAndT, fOrT, fAndV, fOrV, fNotV, fIf, fTup, fLst, fLstM, fSl, fPart, fNoP, fMethL, fNeg, fPut, fPar, fAsg, fYes, List.getElem?_cons_zero, List.getElem?_cons_succ, List.set_cons_zero, List.set_cons_succ, List.map_cons, List.map_nil, List.nil_append, List.cons_append, List.length_cons, List.length_nil, List.reduceReplicate, Nat.reduceSub, Nat.reduceAdd, Nat.zero_add, Bool.not_true, Bool.not_false, if_true, if_false, reduceIte, Bool.false_eq_true, reduceCtorEq, datas, Option.map_some, Option.bind_some, e_add, e_sub, e_lt, e_le, e_gt, e_ge, e_eqI, e_eqB, e_neI, e_neT, e_lenL, e_lenT, ixN43, ixN42, ixN41, ixN10, decide_true, decide_false]
  rw [if_pos (by omega)]
  try simp only [onO_nx, onO_rt, onO_bad, onO_out, onO_ite, on_ite, onO_seq, onO_skip, onO_if, onO_ret, onO_set, onO_ex, onO_for, on_bindI, on_okI, on_badI, fCall, fCons, fNil, fPv, fC, fOp, fTest, fNotT, fAndT, fOrT, fAndV, fOrV, fNotV, fIf, fTup, fLst, fLstM, fSl, fPart, fNoP, fMethL, fNeg, fPut, fPar, fAsg, fYes, List.getElem?_cons_zero, List.getElem?_cons_succ, List.set_cons_zero, List.set_cons_succ, List.map_cons, List.map_nil, List.nil_append, List.cons_append, List.length_cons, List.length_nil, List.reduceReplicate, Nat.reduceSub, Nat.reduceAdd, Nat.zero_add, Bool.not_true, Bool.not_false, if_true, if_false, reduceIte, Bool.false_eq_true, reduceCtorEq, datas, Option.map_some, Option.bind_some, e_add, e_sub, e_lt, e_le, e_gt, e_ge, e_eqI, e_eqB, e_neI, e_neT, e_lenL, e_lenT, ixN43, ixN42, ixN41, ixN10, decide_true, decide_false]
  have l2 := fr2.get l1 (by simpa using nSf)
  refine for_on (fun i sd M3 => ∃ h x4 x5 x6 x7 x8 x9 ps, sd = [some (.r f), some (.d h), some (.d (.int 5)), some (.r S), x4, x5, x6, x7, x8, x9, none] ∧ VD 4 h ∧ Feed M3 f (n + 1 + 6 * i) ∧ M3[S]? = some (.lst ((ps.map spD).map .d)) ∧ (∀ p ∈ ps, SpOk p) ∧ ps.length = i ∧ Fr [f, S] M1 M3 ∧ Flat M3) ?st ?fin
    ⟨h0, none, none, none, none, none, none, [], rfl, hv0, by simpa using fd2, l2, by simp, rfl, fr2.wide (by simp), fl2⟩
  case st =>
    rintro i it _ M3 hi ⟨h, x4, x5, x6, x7, x8, x9, ps, rfl, hv, fd, lS, pok, pl, fr, fl⟩
    obtain ⟨hi, rfl⟩ := rng_at hi
    have hi5 : i < 6 := by omega
    refine ⟨trivial, _, rfl, ?_⟩
    unfold B_lpath_1
    try simp only [onO_nx, onO_rt, onO_bad, onO_out, onO_ite, on_ite, onO_seq, onO_skip, onO_if, onO_ret, onO_set, onO_ex, onO_for, on_bindI, on_okI, on_badI, fCall, fCons, fNil, fPv, fC, fOp, fTest, fNotT, fAndT, fOrT, fAndV, fOrV, fNotV, fIf, fTup, fLst, fLstM, fSl, fPart, fNoP, fMethL, fNeg, fPut, fPar, fAsg, fYes, List.getElem?_cons_zero, List.getElem?_cons_succ, List.set_cons_zero, List.set_cons_succ, List.map_cons, List.map_nil, List.nil_append, List.cons_append, List.length_cons, List.length_nil, List.reduceReplicate, Nat.reduceSub, Nat.reduceAdd, Nat.zero_add, Bool.not_true, Bool.not_false, if_true, if_false, reduceIte, Bool.false_eq_true, reduceCtorEq, datas, Option.map_some, Option.bind_some, e_add, e_sub, e_lt, e_le, e_gt, e_ge, e_eqI, e_eqB, e_neI, e_neT, e_lenL, e_lenT, ixN43, ixN42, ixN41, ixN10, decide_true, decide_false, isi_tup, show (0 : Nat) ≤ sizeLine from by decide]
    have sh : ∀ xs : List PyData, xs.length ≤ 5 → (∀ x ∈ xs, okD x = true ∧ x.depth ≤ 40) → oEqD false (.d (.tuple xs)) (.d (.tuple [])) M3 = .ok (.d (.bool xs.isEmpty)) M3 := fun xs h1 h2 => by
      have s1 : SeqAt.shaped (.tuple xs) = true := shaped_ok (ok_tup (by omega) fun x hx => (h2 x hx).1) (Nat.le_trans (dep_tup fun x hx => (h2 x hx).2) (by decide))
      have s2 : SeqAt.shaped (.tuple []) = true := shaped_ok (by simp [okD, okDs]) (by simp [PyData.depth, PyData.depthAll])
      rw [e_eqD (by rw [s1, s2]; rfl), eqv_nilT]
    cases ht : isT h with
    | false =>
      try simp only [onO_nx, onO_rt, onO_bad, onO_out, onO_ite, on_ite, onO_seq, onO_skip, onO_if, onO_ret, onO_set, onO_ex, onO_for, on_bindI, on_okI, on_badI, fCall, fCons, fNil, fPv, fC, fOp, fTest, fNotT, fAndT, fOrT, fAndV, fOrV, fNotV, fIf, fTup, fLst, fLstM, fSl, fPart, fNoP, fMethL, fNeg, fPut, fPar, fAsg, fYes, List.getElem?_cons_zero, List.getElem?_cons_succ, List.set_cons_zero, List.set_cons_succ, List.map_cons, List.map_nil, List.nil_append, List.cons_append, List.length_cons, List.length_nil, List.reduceReplicate, Nat.reduceSub, Nat.reduceAdd, Nat.zero_add, Bool.not_true, Bool.not_false, if_true, if_false, reduceIte, Bool.false_eq_true, reduceCtorEq, datas, Option.map_some, Option.bind_some, e_add, e_sub, e_lt, e_le, e_gt, e_ge, e_eqI, e_eqB, e_neI, e_neT, e_lenL, e_lenT, ixN43, ixN42, ixN41, ixN10, decide_true, decide_false, show (0 : Nat) ≤ sizeLine from by decide]
      rw [sh [] (by simp) (by simp)]
      try simp only [onO_nx, onO_rt, onO_bad, onO_out, onO_ite, on_ite, onO_seq, onO_skip, onO_if, onO_ret, onO_set, onO_ex, onO_for, on_bindI, on_okI, on_badI, fCall, fCons, fNil, fPv, fC, fOp, fTest, fNotT, fAndT, fOrT, fAndV, fOrV, fNotV, fIf, fTup, fLst, fLstM, fSl, fPart, fNoP, fMethL, fNeg, fPut, fPar, fAsg, fYes, List.getElem?_cons_zero, List.getElem?_cons_succ, List.set_cons_zero, List.set_cons_succ, List.map_cons, List.map_nil, List.nil_append, List.cons_append, List.length_cons, List.length_nil, List.reduceReplicate, Nat.reduceSub, Nat.reduceAdd, Nat.zero_add, Bool.not_true, Bool.not_false, if_true, if_false, reduceIte, Bool.false_eq_true, reduceCtorEq, datas, Option.map_some, Option.bind_some, e_add, e_sub, e_lt, e_le, e_gt, e_ge, e_eqI, e_eqB, e_neI, e_neT, e_lenL, e_lenT, ixN43, ixN42, ixN41, ixN10, decide_true, decide_false, List.isEmpty_nil]
      rw [lstW_at lS]
      try simp only [onO_nx, onO_rt, onO_bad, onO_out, onO_ite, on_ite, onO_seq, onO_skip, onO_if, onO_ret, onO_set, onO_ex, onO_for, on_bindI, on_okI, on_badI, fCall, fCons, fNil, fPv, fC, fOp, fTest, fNotT, fAndT, fOrT, fAndV, fOrV, fNotV, fIf, fTup, fLst, fLstM, fSl, fPart, fNoP, fMethL, fNeg, fPut, fPar, fAsg, fYes, List.getElem?_cons_zero, List.getElem?_cons_succ, List.set_cons_zero, List.set_cons_succ, List.map_cons, List.map_nil, List.nil_append, List.cons_append, List.length_cons, List.length_nil, List.reduceReplicate, Nat.reduceSub, Nat.reduceAdd, Nat.zero_add, Bool.not_true, Bool.not_false, if_true, if_false, reduceIte, Bool.false_eq_true, reduceCtorEq, datas, Option.map_some, Option.bind_some, e_add, e_sub, e_lt, e_le, e_gt, e_ge, e_eqI, e_eqB, e_neI, e_neT, e_lenL, e_lenT, ixN43, ixN42, ixN41, ixN10, decide_true, decide_false]
      refine on_imp (step_on fd fl (by omega)) ?_
      rintro _ M9 ⟨s, rfl, sok, fd9, fr9, fl9⟩
      have l9 := fr9.get lS (by simpa using nSf)
      rw [e_app l9 (Nat.lt_of_le_of_lt (show ((ps.map spD).map Wv.d).length ≤ 10 by rw [List.length_map, List.length_map]; omega) (by decide))]
      try simp only [onO_nx, onO_rt, onO_bad, onO_out, onO_ite, on_ite, onO_seq, onO_skip, onO_if, onO_ret, onO_set, onO_ex, onO_for, on_bindI, on_okI, on_badI, fCall, fCons, fNil, fPv, fC, fOp, fTest, fNotT, fAndT, fOrT, fAndV, fOrV, fNotV, fIf, fTup, fLst, fLstM, fSl, fPart, fNoP, fMethL, fNeg, fPut, fPar, fAsg, fYes, List.getElem?_cons_zero, List.getElem?_cons_succ, List.set_cons_zero, List.set_cons_succ, List.map_cons, List.map_nil, List.nil_append, List.cons_append, List.length_cons, List.length_nil, List.reduceReplicate, Nat.reduceSub, Nat.reduceAdd, Nat.zero_add, Bool.not_true, Bool.not_false, if_true, if_false, reduceIte, Bool.false_eq_true, reduceCtorEq, datas, Option.map_some, Option.bind_some, e_add, e_sub, e_lt, e_le, e_gt, e_ge, e_eqI, e_eqB, e_neI, e_neT, e_lenL, e_lenT, ixN43, ixN42, ixN41, ixN10, decide_true, decide_false]
      rw [map_snoc, map_snoc]
      exact ⟨_, _, _, _, _, _, _, ps ++ [s], rfl, hv, (fd9.fr (S := [S]) (Fr.set (by simp)) (by simpa using nSf.symm)).up (by omega), put4 l9, fun p hp => (List.mem_append.mp hp).elim (fun z => pok p z) (fun z => by rw [List.mem_singleton.mp z]; exact sok), by rw [List.length_append]; simp [pl], ((fr).trans (fr9.wide (by simp))).trans (Fr.set (by simp)), fl9.set (fl_ds _)⟩
    | true =>
      rcases vd_kids hv ht with ⟨es, m, em, rfl, h5, fo, hk⟩ | ⟨ds, m, em, rfl, h5, hk⟩
      · cases em
        have i1 : oIxT (.d (treeD es)) (.d (.int 1)) M3 = .ok (.d (.tuple (es.map pairD))) M3 := ixTd at1
        have pk : ∀ x ∈ es.map pairD, okD x = true ∧ x.depth ≤ 40 := fun x hx => by
          obtain ⟨e, he, rfl⟩ := List.mem_map.mp hx
          have := pair_ok (wl_ok _ (fo.pool e he)) (vg_ok (hk e he).vg)
          exact ⟨this.1, by have : (pairD e).depth ≤ 3 * 3 + 1 := this.2; omega⟩
        try simp only [onO_nx, onO_rt, onO_bad, onO_out, onO_ite, on_ite, onO_seq, onO_skip, onO_if, onO_ret, onO_set, onO_ex, onO_for, on_bindI, on_okI, on_badI, fCall, fCons, fNil, fPv, fC, fOp, fTest, fNotT, fAndT, fOrT, fAndV, fOrV, fNotV, fIf, fTup, fLst, fLstM, fSl, fPart, fNoP, fMethL, fNeg, fPut, fPar, fAsg, fYes, List.getElem?_cons_zero, List.getElem?_cons_succ, List.set_cons_zero, List.set_cons_succ, List.map_cons, List.map_nil, List.nil_append, List.cons_append, List.length_cons, List.length_nil, List.reduceReplicate, Nat.reduceSub, Nat.reduceAdd, Nat.zero_add, Bool.not_true, Bool.not_false, if_true, if_false, reduceIte, Bool.false_eq_true, reduceCtorEq, datas, Option.map_some, Option.bind_some, e_add, e_sub, e_lt, e_le, e_gt, e_ge, e_eqI, e_eqB, e_neI, e_neT, e_lenL, e_lenT, ixN43, ixN42, ixN41, ixN10, decide_true, decide_false, i1]
        rw [sh _ (by rw [List.length_map]; exact h5) pk, List.isEmpty_map]
        try simp only [onO_nx, onO_rt, onO_bad, onO_out, onO_ite, on_ite, onO_seq, onO_skip, onO_if, onO_ret, onO_set, onO_ex, onO_for, on_bindI, on_okI, on_badI, fCall, fCons, fNil, fPv, fC, fOp, fTest, fNotT, fAndT, fOrT, fAndV, fOrV, fNotV, fIf, fTup, fLst, fLstM, fSl, fPart, fNoP, fMethL, fNeg, fPut, fPar, fAsg, fYes, List.getElem?_cons_zero, List.getElem?_cons_succ, List.set_cons_zero, List.set_cons_succ, List.map_cons, List.map_nil, List.nil_append, List.cons_append, List.length_cons, List.length_nil, List.reduceReplicate, Nat.reduceSub, Nat.reduceAdd, Nat.zero_add, Bool.not_true, Bool.not_false, if_true, if_false, reduceIte, Bool.false_eq_true, reduceCtorEq, datas, Option.map_some, Option.bind_some, e_add, e_sub, e_lt, e_le, e_gt, e_ge, e_eqI, e_eqB, e_neI, e_neT, e_lenL, e_lenT, ixN43, ixN42, ixN41, ixN10, decide_true, decide_false]
        cases he : es.isEmpty with
        | true =>
          try simp only [onO_nx, onO_rt, onO_bad, onO_out, onO_ite, on_ite, onO_seq, onO_skip, onO_if, onO_ret, onO_set, onO_ex, onO_for, on_bindI, on_okI, on_badI, fCall, fCons, fNil, fPv, fC, fOp, fTest, fNotT, fAndT, fOrT, fAndV, fOrV, fNotV, fIf, fTup, fLst, fLstM, fSl, fPart, fNoP, fMethL, fNeg, fPut, fPar, fAsg, fYes, List.getElem?_cons_zero, List.getElem?_cons_succ, List.set_cons_zero, List.set_cons_succ, List.map_cons, List.map_nil, List.nil_append, List.cons_append, List.length_cons, List.length_nil, List.reduceReplicate, Nat.reduceSub, Nat.reduceAdd, Nat.zero_add, Bool.not_true, Bool.not_false, if_true, if_false, reduceIte, Bool.false_eq_true, reduceCtorEq, datas, Option.map_some, Option.bind_some, e_add, e_sub, e_lt, e_le, e_gt, e_ge, e_eqI, e_eqB, e_neI, e_neT, e_lenL, e_lenT, ixN43, ixN42, ixN41, ixN10, decide_true, decide_false]
          rw [lstW_at lS]
          try simp only [onO_nx, onO_rt, onO_bad, onO_out, onO_ite, on_ite, onO_seq, onO_skip, onO_if, onO_ret, onO_set, onO_ex, onO_for, on_bindI, on_okI, on_badI, fCall, fCons, fNil, fPv, fC, fOp, fTest, fNotT, fAndT, fOrT, fAndV, fOrV, fNotV, fIf, fTup, fLst, fLstM, fSl, fPart, fNoP, fMethL, fNeg, fPut, fPar, fAsg, fYes, List.getElem?_cons_zero, List.getElem?_cons_succ, List.set_cons_zero, List.set_cons_succ, List.map_cons, List.map_nil, List.nil_append, List.cons_append, List.length_cons, List.length_nil, List.reduceReplicate, Nat.reduceSub, Nat.reduceAdd, Nat.zero_add, Bool.not_true, Bool.not_false, if_true, if_false, reduceIte, Bool.false_eq_true, reduceCtorEq, datas, Option.map_some, Option.bind_some, e_add, e_sub, e_lt, e_le, e_gt, e_ge, e_eqI, e_eqB, e_neI, e_neT, e_lenL, e_lenT, ixN43, ixN42, ixN41, ixN10, decide_true, decide_false]
          refine on_imp (step_on fd fl (by omega)) ?_
          rintro _ M9 ⟨s, rfl, sok, fd9, fr9, fl9⟩
          have l9 := fr9.get lS (by simpa using nSf)
          rw [e_app l9 (Nat.lt_of_le_of_lt (show ((ps.map spD).map Wv.d).length ≤ 10 by rw [List.length_map, List.length_map]; omega) (by decide))]
          try simp only [onO_nx, onO_rt, onO_bad, onO_out, onO_ite, on_ite, onO_seq, onO_skip, onO_if, onO_ret, onO_set, onO_ex, onO_for, on_bindI, on_okI, on_badI, fCall, fCons, fNil, fPv, fC, fOp, fTest, fNotT, fAndT, fOrT, fAndV, fOrV, fNotV, fIf, fTup, fLst, fLstM, fSl, fPart, fNoP, fMethL, fNeg, fPut, fPar, fAsg, fYes, List.getElem?_cons_zero, List.getElem?_cons_succ, List.set_cons_zero, List.set_cons_succ, List.map_cons, List.map_nil, List.nil_append, List.cons_append, List.length_cons, List.length_nil, List.reduceReplicate, Nat.reduceSub, Nat.reduceAdd, Nat.zero_add, Bool.not_true, Bool.not_false, if_true, if_false, reduceIte, Bool.false_eq_true, reduceCtorEq, datas, Option.map_some, Option.bind_some, e_add, e_sub, e_lt, e_le, e_gt, e_ge, e_eqI, e_eqB, e_neI, e_neT, e_lenL, e_lenT, ixN43, ixN42, ixN41, ixN10, decide_true, decide_false]
          rw [map_snoc, map_snoc]
          exact ⟨_, _, _, _, _, _, _, ps ++ [s], rfl, hv, (fd9.fr (S := [S]) (Fr.set (by simp)) (by simpa using nSf.symm)).up (by omega), put4 l9, fun p hp => (List.mem_append.mp hp).elim (fun z => pok p z) (fun z => by rw [List.mem_singleton.mp z]; exact sok), by rw [List.length_append]; simp [pl], ((fr).trans (fr9.wide (by simp))).trans (Fr.set (by simp)), fl9.set (fl_ds _)⟩
        | false =>
          try simp only [onO_nx, onO_rt, onO_bad, onO_out, onO_ite, on_ite, onO_seq, onO_skip, onO_if, onO_ret, onO_set, onO_ex, onO_for, on_bindI, on_okI, on_badI, fCall, fCons, fNil, fPv, fC, fOp, fTest, fNotT, fAndT, fOrT, fAndV, fOrV, fNotV, fIf, fTup, fLst, fLstM, fSl, fPart, fNoP, fMethL, fNeg, fPut, fPar, fAsg, fYes, List.getElem?_cons_zero, List.getElem?_cons_succ, List.set_cons_zero, List.set_cons_succ, List.map_cons, List.map_nil, List.nil_append, List.cons_append, List.length_cons, List.length_nil, List.reduceReplicate, Nat.reduceSub, Nat.reduceAdd, Nat.zero_add, Bool.not_true, Bool.not_false, if_true, if_false, reduceIte, Bool.false_eq_true, reduceCtorEq, datas, Option.map_some, Option.bind_some, e_add, e_sub, e_lt, e_le, e_gt, e_ge, e_eqI, e_eqB, e_neI, e_neT, e_lenL, e_lenT, ixN43, ixN42, ixN41, ixN10, decide_true, decide_false]
          refine on_imp (draw_on fd fl (by omega) (by omega) (by omega)) ?_
          rintro _ M4 ⟨q, rfl, q0, q1, fd4, fr4, fl4⟩
          have lS4 := fr4.get lS (by simpa using nSf)
          have frA : Fr [f, S] M1 M4 := fr.trans (fr4.wide (by simp))
          try simp only [onO_nx, onO_rt, onO_bad, onO_out, onO_ite, on_ite, onO_seq, onO_skip, onO_if, onO_ret, onO_set, onO_ex, onO_for, on_bindI, on_okI, on_badI, fCall, fCons, fNil, fPv, fC, fOp, fTest, fNotT, fAndT, fOrT, fAndV, fOrV, fNotV, fIf, fTup, fLst, fLstM, fSl, fPart, fNoP, fMethL, fNeg, fPut, fPar, fAsg, fYes, List.getElem?_cons_zero, List.getElem?_cons_succ, List.set_cons_zero, List.set_cons_succ, List.map_cons, List.map_nil, List.nil_append, List.cons_append, List.length_cons, List.length_nil, List.reduceReplicate, Nat.reduceSub, Nat.reduceAdd, Nat.zero_add, Bool.not_true, Bool.not_false, if_true, if_false, reduceIte, Bool.false_eq_true, reduceCtorEq, datas, Option.map_some, Option.bind_some, e_add, e_sub, e_lt, e_le, e_gt, e_ge, e_eqI, e_eqB, e_neI, e_neT, e_lenL, e_lenT, ixN43, ixN42, ixN41, ixN10, decide_true, decide_false]
          cases hq : (q == 0) with
          | true =>
            try simp only [onO_nx, onO_rt, onO_bad, onO_out, onO_ite, on_ite, onO_seq, onO_skip, onO_if, onO_ret, onO_set, onO_ex, onO_for, on_bindI, on_okI, on_badI, fCall, fCons, fNil, fPv, fC, fOp, fTest, fNotT, fAndT, fOrT, fAndV, fOrV, fNotV, fIf, fTup, fLst, fLstM, fSl, fPart, fNoP, fMethL, fNeg, fPut, fPar, fAsg, fYes, List.getElem?_cons_zero, List.getElem?_cons_succ, List.set_cons_zero, List.set_cons_succ, List.map_cons, List.map_nil, List.nil_append, List.cons_append, List.length_cons, List.length_nil, List.reduceReplicate, Nat.reduceSub, Nat.reduceAdd, Nat.zero_add, Bool.not_true, Bool.not_false, if_true, if_false, reduceIte, Bool.false_eq_true, reduceCtorEq, datas, Option.map_some, Option.bind_some, e_add, e_sub, e_lt, e_le, e_gt, e_ge, e_eqI, e_eqB, e_neI, e_neT, e_lenL, e_lenT, ixN43, ixN42, ixN41, ixN10, decide_true, decide_false]
            rw [lstW_at lS4]
            try simp only [onO_nx, onO_rt, onO_bad, onO_out, onO_ite, on_ite, onO_seq, onO_skip, onO_if, onO_ret, onO_set, onO_ex, onO_for, on_bindI, on_okI, on_badI, fCall, fCons, fNil, fPv, fC, fOp, fTest, fNotT, fAndT, fOrT, fAndV, fOrV, fNotV, fIf, fTup, fLst, fLstM, fSl, fPart, fNoP, fMethL, fNeg, fPut, fPar, fAsg, fYes, List.getElem?_cons_zero, List.getElem?_cons_succ, List.set_cons_zero, List.set_cons_succ, List.map_cons, List.map_nil, List.nil_append, List.cons_append, List.length_cons, List.length_nil, List.reduceReplicate, Nat.reduceSub, Nat.reduceAdd, Nat.zero_add, Bool.not_true, Bool.not_false, if_true, if_false, reduceIte, Bool.false_eq_true, reduceCtorEq, datas, Option.map_some, Option.bind_some, e_add, e_sub, e_lt, e_le, e_gt, e_ge, e_eqI, e_eqB, e_neI, e_neT, e_lenL, e_lenT, ixN43, ixN42, ixN41, ixN10, decide_true, decide_false]
            refine on_imp (step_on fd4 fl4 (by omega)) ?_
            rintro _ M9 ⟨s, rfl, sok, fd9, fr9, fl9⟩
            have l9 := fr9.get lS4 (by simpa using nSf)
            rw [e_app l9 (Nat.lt_of_le_of_lt (show ((ps.map spD).map Wv.d).length ≤ 10 by rw [List.length_map, List.length_map]; omega) (by decide))]
            try simp only [onO_nx, onO_rt, onO_bad, onO_out, onO_ite, on_ite, onO_seq, onO_skip, onO_if, onO_ret, onO_set, onO_ex, onO_for, on_bindI, on_okI, on_badI, fCall, fCons, fNil, fPv, fC, fOp, fTest, fNotT, fAndT, fOrT, fAndV, fOrV, fNotV, fIf, fTup, fLst, fLstM, fSl, fPart, fNoP, fMethL, fNeg, fPut, fPar, fAsg, fYes, List.getElem?_cons_zero, List.getElem?_cons_succ, List.set_cons_zero, List.set_cons_succ, List.map_cons, List.map_nil, List.nil_append, List.cons_append, List.length_cons, List.length_nil, List.reduceReplicate, Nat.reduceSub, Nat.reduceAdd, Nat.zero_add, Bool.not_true, Bool.not_false, if_true, if_false, reduceIte, Bool.false_eq_true, reduceCtorEq, datas, Option.map_some, Option.bind_some, e_add, e_sub, e_lt, e_le, e_gt, e_ge, e_eqI, e_eqB, e_neI, e_neT, e_lenL, e_lenT, ixN43, ixN42, ixN41, ixN10, decide_true, decide_false]
            rw [map_snoc, map_snoc]
            exact ⟨_, _, _, _, _, _, _, ps ++ [s], rfl, hv, (fd9.fr (S := [S]) (Fr.set (by simp)) (by simpa using nSf.symm)).up (by omega), put4 l9, fun p hp => (List.mem_append.mp hp).elim (fun z => pok p z) (fun z => by rw [List.mem_singleton.mp z]; exact sok), by rw [List.length_append]; simp [pl], ((frA).trans (fr9.wide (by simp))).trans (Fr.set (by simp)), fl9.set (fl_ds _)⟩
          | false =>
            have i0 : oIxT (.d (treeD es)) (.d (.int 0)) M4 = .ok (.d (.str "tree")) M4 := ixTd at0
            have q9 : oEqD false (.d (.str "tree")) (.d (.str "tree")) M4 = .ok (.d (.bool true)) M4 := e_eqSt sh_tree sh_tree
            try simp only [onO_nx, onO_rt, onO_bad, onO_out, onO_ite, on_ite, onO_seq, onO_skip, onO_if, onO_ret, onO_set, onO_ex, onO_for, on_bindI, on_okI, on_badI, fCall, fCons, fNil, fPv, fC, fOp, fTest, fNotT, fAndT, fOrT, fAndV, fOrV, fNotV, fIf, fTup, fLst, fLstM, fSl, fPart, fNoP, fMethL, fNeg, fPut, fPar, fAsg, fYes, List.getElem?_cons_zero, List.getElem?_cons_succ, List.set_cons_zero, List.set_cons_succ, List.map_cons, List.map_nil, List.nil_append, List.cons_append, List.length_cons, List.length_nil, List.reduceReplicate, Nat.reduceSub, Nat.reduceAdd, Nat.zero_add, Bool.not_true, Bool.not_false, if_true, if_false, reduceIte, Bool.false_eq_true, reduceCtorEq, datas, Option.map_some, Option.bind_some, e_add, e_sub, e_lt, e_le, e_gt, e_ge, e_eqI, e_eqB, e_neI, e_neT, e_lenL, e_lenT, ixN43, ixN42, ixN41, ixN10, decide_true, decide_false, i0, q9]
            have el : 0 < es.length := by
              cases es with
              | nil => cases he
              | cons a b => simp
            refine on_imp (draw_on fd4 fl4 (by rw [List.length_map]; omega) (by rw [List.length_map]; omega) (by omega)) ?_
            rintro _ M5 ⟨u, rfl, u0, u1, fd5, fr5, fl5⟩
            obtain ⟨d, e1, e2⟩ := at_in u0 u1
            rw [List.getElem?_map] at e2
            cases e3 : es[u.toNat]? with
            | none => rw [e3] at e2; cases e2
            | some e =>
              rw [e3] at e2
              cases e2
              have em := List.mem_of_getElem? e3
              have lS5 := fr5.get lS4 (by simpa using nSf)
              have frB : Fr [f, S] M1 M5 := frA.trans (fr5.wide (by simp))
              rw [ixTd e1]
              simp only [pairD, on_okI, bind2]
              try simp only [onO_nx, onO_rt, onO_bad, onO_out, onO_ite, on_ite, onO_seq, onO_skip, onO_if, onO_ret, onO_set, onO_ex, onO_for, on_bindI, on_okI, on_badI, fCall, fCons, fNil, fPv, fC, fOp, fTest, fNotT, fAndT, fOrT, fAndV, fOrV, fNotV, fIf, fTup, fLst, fLstM, fSl, fPart, fNoP, fMethL, fNeg, fPut, fPar, fAsg, fYes, List.getElem?_cons_zero, List.getElem?_cons_succ, List.set_cons_zero, List.set_cons_succ, List.map_cons, List.map_nil, List.nil_append, List.cons_append, List.length_cons, List.length_nil, List.reduceReplicate, Nat.reduceSub, Nat.reduceAdd, Nat.zero_add, Bool.not_true, Bool.not_false, if_true, if_false, reduceIte, Bool.false_eq_true, reduceCtorEq, datas, Option.map_some, Option.bind_some, e_add, e_sub, e_lt, e_le, e_gt, e_ge, e_eqI, e_eqB, e_neI, e_neT, e_lenL, e_lenT, ixN43, ixN42, ixN41, ixN10, decide_true, decide_false, lstW_at lS5, show (2 : Nat) ≤ sizeLine from by decide]
              have sk : SpOk (.fld e.1) := wl_wq _ (fo.pool e em)
              rw [e_app lS5 (Nat.lt_of_le_of_lt (show ((ps.map spD).map Wv.d).length ≤ 10 by rw [List.length_map, List.length_map]; omega) (by decide))]
              try simp only [onO_nx, onO_rt, onO_bad, onO_out, onO_ite, on_ite, onO_seq, onO_skip, onO_if, onO_ret, onO_set, onO_ex, onO_for, on_bindI, on_okI, on_badI, fCall, fCons, fNil, fPv, fC, fOp, fTest, fNotT, fAndT, fOrT, fAndV, fOrV, fNotV, fIf, fTup, fLst, fLstM, fSl, fPart, fNoP, fMethL, fNeg, fPut, fPar, fAsg, fYes, List.getElem?_cons_zero, List.getElem?_cons_succ, List.set_cons_zero, List.set_cons_succ, List.map_cons, List.map_nil, List.nil_append, List.cons_append, List.length_cons, List.length_nil, List.reduceReplicate, Nat.reduceSub, Nat.reduceAdd, Nat.zero_add, Bool.not_true, Bool.not_false, if_true, if_false, reduceIte, Bool.false_eq_true, reduceCtorEq, datas, Option.map_some, Option.bind_some, e_add, e_sub, e_lt, e_le, e_gt, e_ge, e_eqI, e_eqB, e_neI, e_neT, e_lenL, e_lenT, ixN43, ixN42, ixN41, ixN10, decide_true, decide_false]
              have eS : ((ps.map spD).map Wv.d) ++ [Wv.d (spD (Sp'.fld e.1))] = ((ps ++ [(Sp'.fld e.1)]).map spD).map Wv.d := by simp
              refine ⟨_, _, _, _, _, _, _, ps ++ [(Sp'.fld e.1)], rfl, (hk e em).up, ((fd5).fr (S := [S]) (Fr.set (by simp)) (by simpa using nSf.symm)).up (by omega), by rw [← eS]; exact put4 lS5, fun p hp => (List.mem_append.mp hp).elim (fun z => pok p z) (fun z => by rw [List.mem_singleton.mp z]; exact sk), by rw [List.length_append]; simp [pl], (frB).trans (Fr.set (by simp)), Flat.set fl5 (by have z := fl_ds ((ps ++ [(Sp'.fld e.1)]).map spD); rw [← eS] at z; exact z)⟩
      · cases em
        have i1 : oIxT (.d (rowD ds)) (.d (.int 1)) M3 = .ok (.d (.tuple ds)) M3 := ixTd at1
        have pk : ∀ x ∈ ds, okD x = true ∧ x.depth ≤ 40 := fun x hx => by
          have := vg_ok (hk x hx).vg
          exact ⟨this.1, by have := this.2; omega⟩
        try simp only [onO_nx, onO_rt, onO_bad, onO_out, onO_ite, on_ite, onO_seq, onO_skip, onO_if, onO_ret, onO_set, onO_ex, onO_for, on_bindI, on_okI, on_badI, fCall, fCons, fNil, fPv, fC, fOp, fTest, fNotT, fAndT, fOrT, fAndV, fOrV, fNotV, fIf, fTup, fLst, fLstM, fSl, fPart, fNoP, fMethL, fNeg, fPut, fPar, fAsg, fYes, List.getElem?_cons_zero, List.getElem?_cons_succ, List.set_cons_zero, List.set_cons_succ, List.map_cons, List.map_nil, List.nil_append, List.cons_append, List.length_cons, List.length_nil, List.reduceReplicate, Nat.reduceSub, Nat.reduceAdd, Nat.zero_add, Bool.not_true, Bool.not_false, if_true, if_false, reduceIte, Bool.false_eq_true, reduceCtorEq, datas, Option.map_some, Option.bind_some, e_add, e_sub, e_lt, e_le, e_gt, e_ge, e_eqI, e_eqB, e_neI, e_neT, e_lenL, e_lenT, ixN43, ixN42, ixN41, ixN10, decide_true, decide_false, i1]
        rw [sh _ h5 pk]
        try simp only [onO_nx, onO_rt, onO_bad, onO_out, onO_ite, on_ite, onO_seq, onO_skip, onO_if, onO_ret, onO_set, onO_ex, onO_for, on_bindI, on_okI, on_badI, fCall, fCons, fNil, fPv, fC, fOp, fTest, fNotT, fAndT, fOrT, fAndV, fOrV, fNotV, fIf, fTup, fLst, fLstM, fSl, fPart, fNoP, fMethL, fNeg, fPut, fPar, fAsg, fYes, List.getElem?_cons_zero, List.getElem?_cons_succ, List.set_cons_zero, List.set_cons_succ, List.map_cons, List.map_nil, List.nil_append, List.cons_append, List.length_cons, List.length_nil, List.reduceReplicate, Nat.reduceSub, Nat.reduceAdd, Nat.zero_add, Bool.not_true, Bool.not_false, if_true, if_false, reduceIte, Bool.false_eq_true, reduceCtorEq, datas, Option.map_some, Option.bind_some, e_add, e_sub, e_lt, e_le, e_gt, e_ge, e_eqI, e_eqB, e_neI, e_neT, e_lenL, e_lenT, ixN43, ixN42, ixN41, ixN10, decide_true, decide_false]
        cases he : ds.isEmpty with
        | true =>
          try simp only [onO_nx, onO_rt, onO_bad, onO_out, onO_ite, on_ite, onO_seq, onO_skip, onO_if, onO_ret, onO_set, onO_ex, onO_for, on_bindI, on_okI, on_badI, fCall, fCons, fNil, fPv, fC, fOp, fTest, fNotT, fAndT, fOrT, fAndV, fOrV, fNotV, fIf, fTup, fLst, fLstM, fSl, fPart, fNoP, fMethL, fNeg, fPut, fPar, fAsg, fYes, List.getElem?_cons_zero, List.getElem?_cons_succ, List.set_cons_zero, List.set_cons_succ, List.map_cons, List.map_nil, List.nil_append, List.cons_append, List.length_cons, List.length_nil, List.reduceReplicate, Nat.reduceSub, Nat.reduceAdd, Nat.zero_add, Bool.not_true, Bool.not_false, if_true, if_false, reduceIte, Bool.false_eq_true, reduceCtorEq, datas, Option.map_some, Option.bind_some, e_add, e_sub, e_lt, e_le, e_gt, e_ge, e_eqI, e_eqB, e_neI, e_neT, e_lenL, e_lenT, ixN43, ixN42, ixN41, ixN10, decide_true, decide_false]
          rw [lstW_at lS]
          try simp only [onO_nx, onO_rt, onO_bad, onO_out, onO_ite, on_ite, onO_seq, onO_skip, onO_if, onO_ret, onO_set, onO_ex, onO_for, on_bindI, on_okI, on_badI, fCall, fCons, fNil, fPv, fC, fOp, fTest, fNotT, fAndT, fOrT, fAndV, fOrV, fNotV, fIf, fTup, fLst, fLstM, fSl, fPart, fNoP, fMethL, fNeg, fPut, fPar, fAsg, fYes, List.getElem?_cons_zero, List.getElem?_cons_succ, List.set_cons_zero, List.set_cons_succ, List.map_cons, List.map_nil, List.nil_append, List.cons_append, List.length_cons, List.length_nil, List.reduceReplicate, Nat.reduceSub, Nat.reduceAdd, Nat.zero_add, Bool.not_true, Bool.not_false, if_true, if_false, reduceIte, Bool.false_eq_true, reduceCtorEq, datas, Option.map_some, Option.bind_some, e_add, e_sub, e_lt, e_le, e_gt, e_ge, e_eqI, e_eqB, e_neI, e_neT, e_lenL, e_lenT, ixN43, ixN42, ixN41, ixN10, decide_true, decide_false]
          refine on_imp (step_on fd fl (by omega)) ?_
          rintro _ M9 ⟨s, rfl, sok, fd9, fr9, fl9⟩
          have l9 := fr9.get lS (by simpa using nSf)
          rw [e_app l9 (Nat.lt_of_le_of_lt (show ((ps.map spD).map Wv.d).length ≤ 10 by rw [List.length_map, List.length_map]; omega) (by decide))]
          try simp only [onO_nx, onO_rt, onO_bad, onO_out, onO_ite, on_ite, onO_seq, onO_skip, onO_if, onO_ret, onO_set, onO_ex, onO_for, on_bindI, on_okI, on_badI, fCall, fCons, fNil, fPv, fC, fOp, fTest, fNotT, fAndT, fOrT, fAndV, fOrV, fNotV, fIf, fTup, fLst, fLstM, fSl, fPart, fNoP, fMethL, fNeg, fPut, fPar, fAsg, fYes, List.getElem?_cons_zero, List.getElem?_cons_succ, List.set_cons_zero, List.set_cons_succ, List.map_cons, List.map_nil, List.nil_append, List.cons_append, List.length_cons, List.length_nil, List.reduceReplicate, Nat.reduceSub, Nat.reduceAdd, Nat.zero_add, Bool.not_true, Bool.not_false, if_true, if_false, reduceIte, Bool.false_eq_true, reduceCtorEq, datas, Option.map_some, Option.bind_some, e_add, e_sub, e_lt, e_le, e_gt, e_ge, e_eqI, e_eqB, e_neI, e_neT, e_lenL, e_lenT, ixN43, ixN42, ixN41, ixN10, decide_true, decide_false]
          rw [map_snoc, map_snoc]
          exact ⟨_, _, _, _, _, _, _, ps ++ [s], rfl, hv, (fd9.fr (S := [S]) (Fr.set (by simp)) (by simpa using nSf.symm)).up (by omega), put4 l9, fun p hp => (List.mem_append.mp hp).elim (fun z => pok p z) (fun z => by rw [List.mem_singleton.mp z]; exact sok), by rw [List.length_append]; simp [pl], ((fr).trans (fr9.wide (by simp))).trans (Fr.set (by simp)), fl9.set (fl_ds _)⟩
        | false =>
          try simp only [onO_nx, onO_rt, onO_bad, onO_out, onO_ite, on_ite, onO_seq, onO_skip, onO_if, onO_ret, onO_set, onO_ex, onO_for, on_bindI, on_okI, on_badI, fCall, fCons, fNil, fPv, fC, fOp, fTest, fNotT, fAndT, fOrT, fAndV, fOrV, fNotV, fIf, fTup, fLst, fLstM, fSl, fPart, fNoP, fMethL, fNeg, fPut, fPar, fAsg, fYes, List.getElem?_cons_zero, List.getElem?_cons_succ, List.set_cons_zero, List.set_cons_succ, List.map_cons, List.map_nil, List.nil_append, List.cons_append, List.length_cons, List.length_nil, List.reduceReplicate, Nat.reduceSub, Nat.reduceAdd, Nat.zero_add, Bool.not_true, Bool.not_false, if_true, if_false, reduceIte, Bool.false_eq_true, reduceCtorEq, datas, Option.map_some, Option.bind_some, e_add, e_sub, e_lt, e_le, e_gt, e_ge, e_eqI, e_eqB, e_neI, e_neT, e_lenL, e_lenT, ixN43, ixN42, ixN41, ixN10, decide_true, decide_false]
          refine on_imp (draw_on fd fl (by omega) (by omega) (by omega)) ?_
          rintro _ M4 ⟨q, rfl, q0, q1, fd4, fr4, fl4⟩
          have lS4 := fr4.get lS (by simpa using nSf)
          have frA : Fr [f, S] M1 M4 := fr.trans (fr4.wide (by simp))
          try simp only [onO_nx, onO_rt, onO_bad, onO_out, onO_ite, on_ite, onO_seq, onO_skip, onO_if, onO_ret, onO_set, onO_ex, onO_for, on_bindI, on_okI, on_badI, fCall, fCons, fNil, fPv, fC, fOp, fTest, fNotT, fAndT, fOrT, fAndV, fOrV, fNotV, fIf, fTup, fLst, fLstM, fSl, fPart, fNoP, fMethL, fNeg, fPut, fPar, fAsg, fYes, List.getElem?_cons_zero, List.getElem?_cons_succ, List.set_cons_zero, List.set_cons_succ, List.map_cons, List.map_nil, List.nil_append, List.cons_append, List.length_cons, List.length_nil, List.reduceReplicate, Nat.reduceSub, Nat.reduceAdd, Nat.zero_add, Bool.not_true, Bool.not_false, if_true, if_false, reduceIte, Bool.false_eq_true, reduceCtorEq, datas, Option.map_some, Option.bind_some, e_add, e_sub, e_lt, e_le, e_gt, e_ge, e_eqI, e_eqB, e_neI, e_neT, e_lenL, e_lenT, ixN43, ixN42, ixN41, ixN10, decide_true, decide_false]
          cases hq : (q == 0) with
          | true =>
            try simp only [onO_nx, onO_rt, onO_bad, onO_out, onO_ite, on_ite, onO_seq, onO_skip, onO_if, onO_ret, onO_set, onO_ex, onO_for, on_bindI, on_okI, on_badI, fCall, fCons, fNil, fPv, fC, fOp, fTest, fNotT, fAndT, fOrT, fAndV, fOrV, fNotV, fIf, fTup, fLst, fLstM, fSl, fPart, fNoP, fMethL, fNeg, fPut, fPar, fAsg, fYes, List.getElem?_cons_zero, List.getElem?_cons_succ, List.set_cons_zero, List.set_cons_succ, List.map_cons, List.map_nil, List.nil_append, List.cons_append, List.length_cons, List.length_nil, List.reduceReplicate, Nat.reduceSub, Nat.reduceAdd, Nat.zero_add, Bool.not_true, Bool.not_false, if_true, if_false, reduceIte, Bool.false_eq_true, reduceCtorEq, datas, Option.map_some, Option.bind_some, e_add, e_sub, e_lt, e_le, e_gt, e_ge, e_eqI, e_eqB, e_neI, e_neT, e_lenL, e_lenT, ixN43, ixN42, ixN41, ixN10, decide_true, decide_false]
            rw [lstW_at lS4]
            try simp only [onO_nx, onO_rt, onO_bad, onO_out, onO_ite, on_ite, onO_seq, onO_skip, onO_if, onO_ret, onO_set, onO_ex, onO_for, on_bindI, on_okI, on_badI, fCall, fCons, fNil, fPv, fC, fOp, fTest, fNotT, fAndT, fOrT, fAndV, fOrV, fNotV, fIf, fTup, fLst, fLstM, fSl, fPart, fNoP, fMethL, fNeg, fPut, fPar, fAsg, fYes, List.getElem?_cons_zero, List.getElem?_cons_succ, List.set_cons_zero, List.set_cons_succ, List.map_cons, List.map_nil, List.nil_append, List.cons_append, List.length_cons, List.length_nil, List.reduceReplicate, Nat.reduceSub, Nat.reduceAdd, Nat.zero_add, Bool.not_true, Bool.not_false, if_true, if_false, reduceIte, Bool.false_eq_true, reduceCtorEq, datas, Option.map_some, Option.bind_some, e_add, e_sub, e_lt, e_le, e_gt, e_ge, e_eqI, e_eqB, e_neI, e_neT, e_lenL, e_lenT, ixN43, ixN42, ixN41, ixN10, decide_true, decide_false]
            refine on_imp (step_on fd4 fl4 (by omega)) ?_
            rintro _ M9 ⟨s, rfl, sok, fd9, fr9, fl9⟩
            have l9 := fr9.get lS4 (by simpa using nSf)
            rw [e_app l9 (Nat.lt_of_le_of_lt (show ((ps.map spD).map Wv.d).length ≤ 10 by rw [List.length_map, List.length_map]; omega) (by decide))]
            try simp only [onO_nx, onO_rt, onO_bad, onO_out, onO_ite, on_ite, onO_seq, onO_skip, onO_if, onO_ret, onO_set, onO_ex, onO_for, on_bindI, on_okI, on_badI, fCall, fCons, fNil, fPv, fC, fOp, fTest, fNotT, fAndT, fOrT, fAndV, fOrV, fNotV, fIf, fTup, fLst, fLstM, fSl, fPart, fNoP, fMethL, fNeg, fPut, fPar, fAsg, fYes, List.getElem?_cons_zero, List.getElem?_cons_succ, List.set_cons_zero, List.set_cons_succ, List.map_cons, List.map_nil, List.nil_append, List.cons_append, List.length_cons, List.length_nil, List.reduceReplicate, Nat.reduceSub, Nat.reduceAdd, Nat.zero_add, Bool.not_true, Bool.not_false, if_true, if_false, reduceIte, Bool.false_eq_true, reduceCtorEq, datas, Option.map_some, Option.bind_some, e_add, e_sub, e_lt, e_le, e_gt, e_ge, e_eqI, e_eqB, e_neI, e_neT, e_lenL, e_lenT, ixN43, ixN42, ixN41, ixN10, decide_true, decide_false]
            rw [map_snoc, map_snoc]
            exact ⟨_, _, _, _, _, _, _, ps ++ [s], rfl, hv, (fd9.fr (S := [S]) (Fr.set (by simp)) (by simpa using nSf.symm)).up (by omega), put4 l9, fun p hp => (List.mem_append.mp hp).elim (fun z => pok p z) (fun z => by rw [List.mem_singleton.mp z]; exact sok), by rw [List.length_append]; simp [pl], ((frA).trans (fr9.wide (by simp))).trans (Fr.set (by simp)), fl9.set (fl_ds _)⟩
          | false =>
            have i0 : oIxT (.d (rowD ds)) (.d (.int 0)) M4 = .ok (.d (.str "row")) M4 := ixTd at0
            have q9 : oEqD false (.d (.str "row")) (.d (.str "tree")) M4 = .ok (.d (.bool false)) M4 := e_eqSt sh_row sh_tree
            try simp only [onO_nx, onO_rt, onO_bad, onO_out, onO_ite, on_ite, onO_seq, onO_skip, onO_if, onO_ret, onO_set, onO_ex, onO_for, on_bindI, on_okI, on_badI, fCall, fCons, fNil, fPv, fC, fOp, fTest, fNotT, fAndT, fOrT, fAndV, fOrV, fNotV, fIf, fTup, fLst, fLstM, fSl, fPart, fNoP, fMethL, fNeg, fPut, fPar, fAsg, fYes, List.getElem?_cons_zero, List.getElem?_cons_succ, List.set_cons_zero, List.set_cons_succ, List.map_cons, List.map_nil, List.nil_append, List.cons_append, List.length_cons, List.length_nil, List.reduceReplicate, Nat.reduceSub, Nat.reduceAdd, Nat.zero_add, Bool.not_true, Bool.not_false, if_true, if_false, reduceIte, Bool.false_eq_true, reduceCtorEq, datas, Option.map_some, Option.bind_some, e_add, e_sub, e_lt, e_le, e_gt, e_ge, e_eqI, e_eqB, e_neI, e_neT, e_lenL, e_lenT, ixN43, ixN42, ixN41, ixN10, decide_true, decide_false, i0, q9]
            have el : 0 < ds.length := by
              cases ds with
              | nil => cases he
              | cons a b => simp
            refine on_imp (draw_on fd4 fl4 (by omega) (by omega) (by omega)) ?_
            rintro _ M5 ⟨u, rfl, u0, u1, fd5, fr5, fl5⟩
            obtain ⟨g, e1, e2⟩ := at_in u0 u1
            have gm := List.mem_of_getElem? e2
            have gv := hk g gm
            have lS5 := fr5.get lS4 (by simpa using nSf)
            have frB : Fr [f, S] M1 M5 := frA.trans (fr5.wide (by simp))
            try simp only [onO_nx, onO_rt, onO_bad, onO_out, onO_ite, on_ite, onO_seq, onO_skip, onO_if, onO_ret, onO_set, onO_ex, onO_for, on_bindI, on_okI, on_badI, fCall, fCons, fNil, fPv, fC, fOp, fTest, fNotT, fAndT, fOrT, fAndV, fOrV, fNotV, fIf, fTup, fLst, fLstM, fSl, fPart, fNoP, fMethL, fNeg, fPut, fPar, fAsg, fYes, List.getElem?_cons_zero, List.getElem?_cons_succ, List.set_cons_zero, List.set_cons_succ, List.map_cons, List.map_nil, List.nil_append, List.cons_append, List.length_cons, List.length_nil, List.reduceReplicate, Nat.reduceSub, Nat.reduceAdd, Nat.zero_add, Bool.not_true, Bool.not_false, if_true, if_false, reduceIte, Bool.false_eq_true, reduceCtorEq, datas, Option.map_some, Option.bind_some, e_add, e_sub, e_lt, e_le, e_gt, e_ge, e_eqI, e_eqB, e_neI, e_neT, e_lenL, e_lenT, ixN43, ixN42, ixN41, ixN10, decide_true, decide_false]
            rw [ixTd e1]
            try simp only [onO_nx, onO_rt, onO_bad, onO_out, onO_ite, on_ite, onO_seq, onO_skip, onO_if, onO_ret, onO_set, onO_ex, onO_for, on_bindI, on_okI, on_badI, fCall, fCons, fNil, fPv, fC, fOp, fTest, fNotT, fAndT, fOrT, fAndV, fOrV, fNotV, fIf, fTup, fLst, fLstM, fSl, fPart, fNoP, fMethL, fNeg, fPut, fPar, fAsg, fYes, List.getElem?_cons_zero, List.getElem?_cons_succ, List.set_cons_zero, List.set_cons_succ, List.map_cons, List.map_nil, List.nil_append, List.cons_append, List.length_cons, List.length_nil, List.reduceReplicate, Nat.reduceSub, Nat.reduceAdd, Nat.zero_add, Bool.not_true, Bool.not_false, if_true, if_false, reduceIte, Bool.false_eq_true, reduceCtorEq, datas, Option.map_some, Option.bind_some, e_add, e_sub, e_lt, e_le, e_gt, e_ge, e_eqI, e_eqB, e_neI, e_neT, e_lenL, e_lenT, ixN43, ixN42, ixN41, ixN10, decide_true, decide_false, lisa_eq (k := "tree") gv.vg fl5 (by decide +kernel), isA_tree, show (0 : Nat) ≤ sizeLine from by decide]
            refine kids_ite gv ?_
            refine on_imp (inner_on gv (by omega) fl5 rfl rfl) ?_
            rintro _ _ ⟨rfl, zs, rfl, hzs, z5⟩
            try simp only [onO_nx, onO_rt, onO_bad, onO_out, onO_ite, on_ite, onO_seq, onO_skip, onO_if, onO_ret, onO_set, onO_ex, onO_for, on_bindI, on_okI, on_badI, fCall, fCons, fNil, fPv, fC, fOp, fTest, fNotT, fAndT, fOrT, fAndV, fOrV, fNotV, fIf, fTup, fLst, fLstM, fSl, fPart, fNoP, fMethL, fNeg, fPut, fPar, fAsg, fYes, List.getElem?_cons_zero, List.getElem?_cons_succ, List.set_cons_zero, List.set_cons_succ, List.map_cons, List.map_nil, List.nil_append, List.cons_append, List.length_cons, List.length_nil, List.reduceReplicate, Nat.reduceSub, Nat.reduceAdd, Nat.zero_add, Bool.not_true, Bool.not_false, if_true, if_false, reduceIte, Bool.false_eq_true, reduceCtorEq, datas, Option.map_some, Option.bind_some, e_add, e_sub, e_lt, e_le, e_gt, e_ge, e_eqI, e_eqB, e_neI, e_neT, e_lenL, e_lenT, ixN43, ixN42, ixN41, ixN10, decide_true, decide_false]
            refine on_imp (draw_on fd5 fl5 (by omega) (by omega) (by omega)) ?_
            rintro _ M6 ⟨v, rfl, v0, v1, fd6, fr6, fl6⟩
            have lS6 := fr6.get lS5 (by simpa using nSf)
            have frC : Fr [f, S] M1 M6 := frB.trans (fr6.wide (by simp))
            have ku : SpOk (Sp'.num u.toNat) := by show u.toNat ≤ 200; omega
            have eu : PyData.tuple [.str "at", .int u] = spD (.num u.toNat) := by simp only [spD, Int.toNat_of_nonneg u0]
            have ee : PyData.tuple [.str "each"] = spD .each := rfl
            try simp only [onO_nx, onO_rt, onO_bad, onO_out, onO_ite, on_ite, onO_seq, onO_skip, onO_if, onO_ret, onO_set, onO_ex, onO_for, on_bindI, on_okI, on_badI, fCall, fCons, fNil, fPv, fC, fOp, fTest, fNotT, fAndT, fOrT, fAndV, fOrV, fNotV, fIf, fTup, fLst, fLstM, fSl, fPart, fNoP, fMethL, fNeg, fPut, fPar, fAsg, fYes, List.getElem?_cons_zero, List.getElem?_cons_succ, List.set_cons_zero, List.set_cons_succ, List.map_cons, List.map_nil, List.nil_append, List.cons_append, List.length_cons, List.length_nil, List.reduceReplicate, Nat.reduceSub, Nat.reduceAdd, Nat.zero_add, Bool.not_true, Bool.not_false, if_true, if_false, reduceIte, Bool.false_eq_true, reduceCtorEq, datas, Option.map_some, Option.bind_some, e_add, e_sub, e_lt, e_le, e_gt, e_ge, e_eqI, e_eqB, e_neI, e_neT, e_lenL, e_lenT, ixN43, ixN42, ixN41, ixN10, decide_true, decide_false]
            cases hv2 : (v == 2) with
            | false =>
              try simp only [onO_nx, onO_rt, onO_bad, onO_out, onO_ite, on_ite, onO_seq, onO_skip, onO_if, onO_ret, onO_set, onO_ex, onO_for, on_bindI, on_okI, on_badI, fCall, fCons, fNil, fPv, fC, fOp, fTest, fNotT, fAndT, fOrT, fAndV, fOrV, fNotV, fIf, fTup, fLst, fLstM, fSl, fPart, fNoP, fMethL, fNeg, fPut, fPar, fAsg, fYes, List.getElem?_cons_zero, List.getElem?_cons_succ, List.set_cons_zero, List.set_cons_succ, List.map_cons, List.map_nil, List.nil_append, List.cons_append, List.length_cons, List.length_nil, List.reduceReplicate, Nat.reduceSub, Nat.reduceAdd, Nat.zero_add, Bool.not_true, Bool.not_false, if_true, if_false, reduceIte, Bool.false_eq_true, reduceCtorEq, datas, Option.map_some, Option.bind_some, e_add, e_sub, e_lt, e_le, e_gt, e_ge, e_eqI, e_eqB, e_neI, e_neT, e_lenL, e_lenT, ixN43, ixN42, ixN41, ixN10, decide_true, decide_false]
              rw [lstW_at lS6]
              try simp only [onO_nx, onO_rt, onO_bad, onO_out, onO_ite, on_ite, onO_seq, onO_skip, onO_if, onO_ret, onO_set, onO_ex, onO_for, on_bindI, on_okI, on_badI, fCall, fCons, fNil, fPv, fC, fOp, fTest, fNotT, fAndT, fOrT, fAndV, fOrV, fNotV, fIf, fTup, fLst, fLstM, fSl, fPart, fNoP, fMethL, fNeg, fPut, fPar, fAsg, fYes, List.getElem?_cons_zero, List.getElem?_cons_succ, List.set_cons_zero, List.set_cons_succ, List.map_cons, List.map_nil, List.nil_append, List.cons_append, List.length_cons, List.length_nil, List.reduceReplicate, Nat.reduceSub, Nat.reduceAdd, Nat.zero_add, Bool.not_true, Bool.not_false, if_true, if_false, reduceIte, Bool.false_eq_true, reduceCtorEq, datas, Option.map_some, Option.bind_some, e_add, e_sub, e_lt, e_le, e_gt, e_ge, e_eqI, e_eqB, e_neI, e_neT, e_lenL, e_lenT, ixN43, ixN42, ixN41, ixN10, decide_true, decide_false, show (1 : Nat) ≤ sizeLine from by decide, show (2 : Nat) ≤ sizeLine from by decide]
              cases hv0' : (v == 0) with
              | true =>
                try simp only [onO_nx, onO_rt, onO_bad, onO_out, onO_ite, on_ite, onO_seq, onO_skip, onO_if, onO_ret, onO_set, onO_ex, onO_for, on_bindI, on_okI, on_badI, fCall, fCons, fNil, fPv, fC, fOp, fTest, fNotT, fAndT, fOrT, fAndV, fOrV, fNotV, fIf, fTup, fLst, fLstM, fSl, fPart, fNoP, fMethL, fNeg, fPut, fPar, fAsg, fYes, List.getElem?_cons_zero, List.getElem?_cons_succ, List.set_cons_zero, List.set_cons_succ, List.map_cons, List.map_nil, List.nil_append, List.cons_append, List.length_cons, List.length_nil, List.reduceReplicate, Nat.reduceSub, Nat.reduceAdd, Nat.zero_add, Bool.not_true, Bool.not_false, if_true, if_false, reduceIte, Bool.false_eq_true, reduceCtorEq, datas, Option.map_some, Option.bind_some, e_add, e_sub, e_lt, e_le, e_gt, e_ge, e_eqI, e_eqB, e_neI, e_neT, e_lenL, e_lenT, ixN43, ixN42, ixN41, ixN10, decide_true, decide_false]
                rw [eu]
                rw [e_app lS6 (Nat.lt_of_le_of_lt (show ((ps.map spD).map Wv.d).length ≤ 10 by rw [List.length_map, List.length_map]; omega) (by decide))]
                try simp only [onO_nx, onO_rt, onO_bad, onO_out, onO_ite, on_ite, onO_seq, onO_skip, onO_if, onO_ret, onO_set, onO_ex, onO_for, on_bindI, on_okI, on_badI, fCall, fCons, fNil, fPv, fC, fOp, fTest, fNotT, fAndT, fOrT, fAndV, fOrV, fNotV, fIf, fTup, fLst, fLstM, fSl, fPart, fNoP, fMethL, fNeg, fPut, fPar, fAsg, fYes, List.getElem?_cons_zero, List.getElem?_cons_succ, List.set_cons_zero, List.set_cons_succ, List.map_cons, List.map_nil, List.nil_append, List.cons_append, List.length_cons, List.length_nil, List.reduceReplicate, Nat.reduceSub, Nat.reduceAdd, Nat.zero_add, Bool.not_true, Bool.not_false, if_true, if_false, reduceIte, Bool.false_eq_true, reduceCtorEq, datas, Option.map_some, Option.bind_some, e_add, e_sub, e_lt, e_le, e_gt, e_ge, e_eqI, e_eqB, e_neI, e_neT, e_lenL, e_lenT, ixN43, ixN42, ixN41, ixN10, decide_true, decide_false]
                have eS : ((ps.map spD).map Wv.d) ++ [Wv.d (spD (Sp'.num u.toNat))] = ((ps ++ [(Sp'.num u.toNat)]).map spD).map Wv.d := by simp
                refine ⟨_, _, _, _, _, _, _, ps ++ [(Sp'.num u.toNat)], rfl, gv.up, ((fd6).fr (S := [S]) (Fr.set (by simp)) (by simpa using nSf.symm)).up (by omega), by rw [← eS]; exact put4 lS6, fun p hp => (List.mem_append.mp hp).elim (fun z => pok p z) (fun z => by rw [List.mem_singleton.mp z]; exact ku), by rw [List.length_append]; simp [pl], (frC).trans (Fr.set (by simp)), Flat.set fl6 (by have z := fl_ds ((ps ++ [(Sp'.num u.toNat)]).map spD); rw [← eS] at z; exact z)⟩
              | false =>
                try simp only [onO_nx, onO_rt, onO_bad, onO_out, onO_ite, on_ite, onO_seq, onO_skip, onO_if, onO_ret, onO_set, onO_ex, onO_for, on_bindI, on_okI, on_badI, fCall, fCons, fNil, fPv, fC, fOp, fTest, fNotT, fAndT, fOrT, fAndV, fOrV, fNotV, fIf, fTup, fLst, fLstM, fSl, fPart, fNoP, fMethL, fNeg, fPut, fPar, fAsg, fYes, List.getElem?_cons_zero, List.getElem?_cons_succ, List.set_cons_zero, List.set_cons_succ, List.map_cons, List.map_nil, List.nil_append, List.cons_append, List.length_cons, List.length_nil, List.reduceReplicate, Nat.reduceSub, Nat.reduceAdd, Nat.zero_add, Bool.not_true, Bool.not_false, if_true, if_false, reduceIte, Bool.false_eq_true, reduceCtorEq, datas, Option.map_some, Option.bind_some, e_add, e_sub, e_lt, e_le, e_gt, e_ge, e_eqI, e_eqB, e_neI, e_neT, e_lenL, e_lenT, ixN43, ixN42, ixN41, ixN10, decide_true, decide_false]
                rw [ee]
                rw [e_app lS6 (Nat.lt_of_le_of_lt (show ((ps.map spD).map Wv.d).length ≤ 10 by rw [List.length_map, List.length_map]; omega) (by decide))]
                try simp only [onO_nx, onO_rt, onO_bad, onO_out, onO_ite, on_ite, onO_seq, onO_skip, onO_if, onO_ret, onO_set, onO_ex, onO_for, on_bindI, on_okI, on_badI, fCall, fCons, fNil, fPv, fC, fOp, fTest, fNotT, fAndT, fOrT, fAndV, fOrV, fNotV, fIf, fTup, fLst, fLstM, fSl, fPart, fNoP, fMethL, fNeg, fPut, fPar, fAsg, fYes, List.getElem?_cons_zero, List.getElem?_cons_succ, List.set_cons_zero, List.set_cons_succ, List.map_cons, List.map_nil, List.nil_append, List.cons_append, List.length_cons, List.length_nil, List.reduceReplicate, Nat.reduceSub, Nat.reduceAdd, Nat.zero_add, Bool.not_true, Bool.not_false, if_true, if_false, reduceIte, Bool.false_eq_true, reduceCtorEq, datas, Option.map_some, Option.bind_some, e_add, e_sub, e_lt, e_le, e_gt, e_ge, e_eqI, e_eqB, e_neI, e_neT, e_lenL, e_lenT, ixN43, ixN42, ixN41, ixN10, decide_true, decide_false]
                have eS : ((ps.map spD).map Wv.d) ++ [Wv.d (spD Sp'.each)] = ((ps ++ [Sp'.each]).map spD).map Wv.d := by simp
                refine ⟨_, _, _, _, _, _, _, ps ++ [Sp'.each], rfl, gv.up, ((fd6).fr (S := [S]) (Fr.set (by simp)) (by simpa using nSf.symm)).up (by omega), by rw [← eS]; exact put4 lS6, fun p hp => (List.mem_append.mp hp).elim (fun z => pok p z) (fun z => by rw [List.mem_singleton.mp z]; exact (show SpOk Sp'.each from trivial)), by rw [List.length_append]; simp [pl], (frC).trans (Fr.set (by simp)), Flat.set fl6 (by have z := fl_ds ((ps ++ [Sp'.each]).map spD); rw [← eS] at z; exact z)⟩
            | true =>
              have lz : ∀ x ∈ zs.map pairD, okD x = true ∧ x.depth ≤ 62 := fun x hx => by
                obtain ⟨e, he, rfl⟩ := List.mem_map.mp hx
                have pk' := pl_ok _ (hzs e he).2
                have := pair_ok (n := 0) (wl_ok _ (hzs e he).1) ⟨pk'.1, by rw [pk'.2.2.2]; exact Nat.le_refl _⟩
                exact ⟨this.1, Nat.le_trans this.2 (by decide)⟩
              try simp only [onO_nx, onO_rt, onO_bad, onO_out, onO_ite, on_ite, onO_seq, onO_skip, onO_if, onO_ret, onO_set, onO_ex, onO_for, on_bindI, on_okI, on_badI, fCall, fCons, fNil, fPv, fC, fOp, fTest, fNotT, fAndT, fOrT, fAndV, fOrV, fNotV, fIf, fTup, fLst, fLstM, fSl, fPart, fNoP, fMethL, fNeg, fPut, fPar, fAsg, fYes, List.getElem?_cons_zero, List.getElem?_cons_succ, List.set_cons_zero, List.set_cons_succ, List.map_cons, List.map_nil, List.nil_append, List.cons_append, List.length_cons, List.length_nil, List.reduceReplicate, Nat.reduceSub, Nat.reduceAdd, Nat.zero_add, Bool.not_true, Bool.not_false, if_true, if_false, reduceIte, Bool.false_eq_true, reduceCtorEq, datas, Option.map_some, Option.bind_some, e_add, e_sub, e_lt, e_le, e_gt, e_ge, e_eqI, e_eqB, e_neI, e_neT, e_lenL, e_lenT, ixN43, ixN42, ixN41, ixN10, decide_true, decide_false]
              rw [e_neD (by rw [list_shaped lz, list_shaped (xs := []) (by simp)]; rfl), eqv_nilL, List.isEmpty_map]
              try simp only [onO_nx, onO_rt, onO_bad, onO_out, onO_ite, on_ite, onO_seq, onO_skip, onO_if, onO_ret, onO_set, onO_ex, onO_for, on_bindI, on_okI, on_badI, fCall, fCons, fNil, fPv, fC, fOp, fTest, fNotT, fAndT, fOrT, fAndV, fOrV, fNotV, fIf, fTup, fLst, fLstM, fSl, fPart, fNoP, fMethL, fNeg, fPut, fPar, fAsg, fYes, List.getElem?_cons_zero, List.getElem?_cons_succ, List.set_cons_zero, List.set_cons_succ, List.map_cons, List.map_nil, List.nil_append, List.cons_append, List.length_cons, List.length_nil, List.reduceReplicate, Nat.reduceSub, Nat.reduceAdd, Nat.zero_add, Bool.not_true, Bool.not_false, if_true, if_false, reduceIte, Bool.false_eq_true, reduceCtorEq, datas, Option.map_some, Option.bind_some, e_add, e_sub, e_lt, e_le, e_gt, e_ge, e_eqI, e_eqB, e_neI, e_neT, e_lenL, e_lenT, ixN43, ixN42, ixN41, ixN10, decide_true, decide_false]
              cases hz : zs.isEmpty with
              | true =>
                try simp only [onO_nx, onO_rt, onO_bad, onO_out, onO_ite, on_ite, onO_seq, onO_skip, onO_if, onO_ret, onO_set, onO_ex, onO_for, on_bindI, on_okI, on_badI, fCall, fCons, fNil, fPv, fC, fOp, fTest, fNotT, fAndT, fOrT, fAndV, fOrV, fNotV, fIf, fTup, fLst, fLstM, fSl, fPart, fNoP, fMethL, fNeg, fPut, fPar, fAsg, fYes, List.getElem?_cons_zero, List.getElem?_cons_succ, List.set_cons_zero, List.set_cons_succ, List.map_cons, List.map_nil, List.nil_append, List.cons_append, List.length_cons, List.length_nil, List.reduceReplicate, Nat.reduceSub, Nat.reduceAdd, Nat.zero_add, Bool.not_true, Bool.not_false, if_true, if_false, reduceIte, Bool.false_eq_true, reduceCtorEq, datas, Option.map_some, Option.bind_some, e_add, e_sub, e_lt, e_le, e_gt, e_ge, e_eqI, e_eqB, e_neI, e_neT, e_lenL, e_lenT, ixN43, ixN42, ixN41, ixN10, decide_true, decide_false]
                rw [lstW_at lS6]
                try simp only [onO_nx, onO_rt, onO_bad, onO_out, onO_ite, on_ite, onO_seq, onO_skip, onO_if, onO_ret, onO_set, onO_ex, onO_for, on_bindI, on_okI, on_badI, fCall, fCons, fNil, fPv, fC, fOp, fTest, fNotT, fAndT, fOrT, fAndV, fOrV, fNotV, fIf, fTup, fLst, fLstM, fSl, fPart, fNoP, fMethL, fNeg, fPut, fPar, fAsg, fYes, List.getElem?_cons_zero, List.getElem?_cons_succ, List.set_cons_zero, List.set_cons_succ, List.map_cons, List.map_nil, List.nil_append, List.cons_append, List.length_cons, List.length_nil, List.reduceReplicate, Nat.reduceSub, Nat.reduceAdd, Nat.zero_add, Bool.not_true, Bool.not_false, if_true, if_false, reduceIte, Bool.false_eq_true, reduceCtorEq, datas, Option.map_some, Option.bind_some, e_add, e_sub, e_lt, e_le, e_gt, e_ge, e_eqI, e_eqB, e_neI, e_neT, e_lenL, e_lenT, ixN43, ixN42, ixN41, ixN10, decide_true, decide_false, show (1 : Nat) ≤ sizeLine from by decide, show (2 : Nat) ≤ sizeLine from by decide]
                cases hv0' : (v == 0) with
                | true =>
                  try simp only [onO_nx, onO_rt, onO_bad, onO_out, onO_ite, on_ite, onO_seq, onO_skip, onO_if, onO_ret, onO_set, onO_ex, onO_for, on_bindI, on_okI, on_badI, fCall, fCons, fNil, fPv, fC, fOp, fTest, fNotT, fAndT, fOrT, fAndV, fOrV, fNotV, fIf, fTup, fLst, fLstM, fSl, fPart, fNoP, fMethL, fNeg, fPut, fPar, fAsg, fYes, List.getElem?_cons_zero, List.getElem?_cons_succ, List.set_cons_zero, List.set_cons_succ, List.map_cons, List.map_nil, List.nil_append, List.cons_append, List.length_cons, List.length_nil, List.reduceReplicate, Nat.reduceSub, Nat.reduceAdd, Nat.zero_add, Bool.not_true, Bool.not_false, if_true, if_false, reduceIte, Bool.false_eq_true, reduceCtorEq, datas, Option.map_some, Option.bind_some, e_add, e_sub, e_lt, e_le, e_gt, e_ge, e_eqI, e_eqB, e_neI, e_neT, e_lenL, e_lenT, ixN43, ixN42, ixN41, ixN10, decide_true, decide_false]
                  rw [eu]
                  rw [e_app lS6 (Nat.lt_of_le_of_lt (show ((ps.map spD).map Wv.d).length ≤ 10 by rw [List.length_map, List.length_map]; omega) (by decide))]
                  try simp only [onO_nx, onO_rt, onO_bad, onO_out, onO_ite, on_ite, onO_seq, onO_skip, onO_if, onO_ret, onO_set, onO_ex, onO_for, on_bindI, on_okI, on_badI, fCall, fCons, fNil, fPv, fC, fOp, fTest, fNotT, fAndT, fOrT, fAndV, fOrV, fNotV, fIf, fTup, fLst, fLstM, fSl, fPart, fNoP, fMethL, fNeg, fPut, fPar, fAsg, fYes, List.getElem?_cons_zero, List.getElem?_cons_succ, List.set_cons_zero, List.set_cons_succ, List.map_cons, List.map_nil, List.nil_append, List.cons_append, List.length_cons, List.length_nil, List.reduceReplicate, Nat.reduceSub, Nat.reduceAdd, Nat.zero_add, Bool.not_true, Bool.not_false, if_true, if_false, reduceIte, Bool.false_eq_true, reduceCtorEq, datas, Option.map_some, Option.bind_some, e_add, e_sub, e_lt, e_le, e_gt, e_ge, e_eqI, e_eqB, e_neI, e_neT, e_lenL, e_lenT, ixN43, ixN42, ixN41, ixN10, decide_true, decide_false]
                  have eS : ((ps.map spD).map Wv.d) ++ [Wv.d (spD (Sp'.num u.toNat))] = ((ps ++ [(Sp'.num u.toNat)]).map spD).map Wv.d := by simp
                  refine ⟨_, _, _, _, _, _, _, ps ++ [(Sp'.num u.toNat)], rfl, gv.up, ((fd6).fr (S := [S]) (Fr.set (by simp)) (by simpa using nSf.symm)).up (by omega), by rw [← eS]; exact put4 lS6, fun p hp => (List.mem_append.mp hp).elim (fun z => pok p z) (fun z => by rw [List.mem_singleton.mp z]; exact ku), by rw [List.length_append]; simp [pl], (frC).trans (Fr.set (by simp)), Flat.set fl6 (by have z := fl_ds ((ps ++ [(Sp'.num u.toNat)]).map spD); rw [← eS] at z; exact z)⟩
                | false =>
                  try simp only [onO_nx, onO_rt, onO_bad, onO_out, onO_ite, on_ite, onO_seq, onO_skip, onO_if, onO_ret, onO_set, onO_ex, onO_for, on_bindI, on_okI, on_badI, fCall, fCons, fNil, fPv, fC, fOp, fTest, fNotT, fAndT, fOrT, fAndV, fOrV, fNotV, fIf, fTup, fLst, fLstM, fSl, fPart, fNoP, fMethL, fNeg, fPut, fPar, fAsg, fYes, List.getElem?_cons_zero, List.getElem?_cons_succ, List.set_cons_zero, List.set_cons_succ, List.map_cons, List.map_nil, List.nil_append, List.cons_append, List.length_cons, List.length_nil, List.reduceReplicate, Nat.reduceSub, Nat.reduceAdd, Nat.zero_add, Bool.not_true, Bool.not_false, if_true, if_false, reduceIte, Bool.false_eq_true, reduceCtorEq, datas, Option.map_some, Option.bind_some, e_add, e_sub, e_lt, e_le, e_gt, e_ge, e_eqI, e_eqB, e_neI, e_neT, e_lenL, e_lenT, ixN43, ixN42, ixN41, ixN10, decide_true, decide_false]
                  rw [ee]
                  rw [e_app lS6 (Nat.lt_of_le_of_lt (show ((ps.map spD).map Wv.d).length ≤ 10 by rw [List.length_map, List.length_map]; omega) (by decide))]
                  try simp only [onO_nx, onO_rt, onO_bad, onO_out, onO_ite, on_ite, onO_seq, onO_skip, onO_if, onO_ret, onO_set, onO_ex, onO_for, on_bindI, on_okI, on_badI, fCall, fCons, fNil, fPv, fC, fOp, fTest, fNotT, fAndT, fOrT, fAndV, fOrV, fNotV, fIf, fTup, fLst, fLstM, fSl, fPart, fNoP, fMethL, fNeg, fPut, fPar, fAsg, fYes, List.getElem?_cons_zero, List.getElem?_cons_succ, List.set_cons_zero, List.set_cons_succ, List.map_cons, List.map_nil, List.nil_append, List.cons_append, List.length_cons, List.length_nil, List.reduceReplicate, Nat.reduceSub, Nat.reduceAdd, Nat.zero_add, Bool.not_true, Bool.not_false, if_true, if_false, reduceIte, Bool.false_eq_true, reduceCtorEq, datas, Option.map_some, Option.bind_some, e_add, e_sub, e_lt, e_le, e_gt, e_ge, e_eqI, e_eqB, e_neI, e_neT, e_lenL, e_lenT, ixN43, ixN42, ixN41, ixN10, decide_true, decide_false]
                  have eS : ((ps.map spD).map Wv.d) ++ [Wv.d (spD Sp'.each)] = ((ps ++ [Sp'.each]).map spD).map Wv.d := by simp
                  refine ⟨_, _, _, _, _, _, _, ps ++ [Sp'.each], rfl, gv.up, ((fd6).fr (S := [S]) (Fr.set (by simp)) (by simpa using nSf.symm)).up (by omega), by rw [← eS]; exact put4 lS6, fun p hp => (List.mem_append.mp hp).elim (fun z => pok p z) (fun z => by rw [List.mem_singleton.mp z]; exact (show SpOk Sp'.each from trivial)), by rw [List.length_append]; simp [pl], (frC).trans (Fr.set (by simp)), Flat.set fl6 (by have z := fl_ds ((ps ++ [Sp'.each]).map spD); rw [← eS] at z; exact z)⟩
              | false =>
                have zl : 0 < zs.length := by
                  cases zs with
                  | nil => cases hz
                  | cons a b => simp
                try simp only [onO_nx, onO_rt, onO_bad, onO_out, onO_ite, on_ite, onO_seq, onO_skip, onO_if, onO_ret, onO_set, onO_ex, onO_for, on_bindI, on_okI, on_badI, fCall, fCons, fNil, fPv, fC, fOp, fTest, fNotT, fAndT, fOrT, fAndV, fOrV, fNotV, fIf, fTup, fLst, fLstM, fSl, fPart, fNoP, fMethL, fNeg, fPut, fPar, fAsg, fYes, List.getElem?_cons_zero, List.getElem?_cons_succ, List.set_cons_zero, List.set_cons_succ, List.map_cons, List.map_nil, List.nil_append, List.cons_append, List.length_cons, List.length_nil, List.reduceReplicate, Nat.reduceSub, Nat.reduceAdd, Nat.zero_add, Bool.not_true, Bool.not_false, if_true, if_false, reduceIte, Bool.false_eq_true, reduceCtorEq, datas, Option.map_some, Option.bind_some, e_add, e_sub, e_lt, e_le, e_gt, e_ge, e_eqI, e_eqB, e_neI, e_neT, e_lenL, e_lenT, ixN43, ixN42, ixN41, ixN10, decide_true, decide_false, lstW_at lS6, show (1 : Nat) ≤ sizeLine from by decide]
                refine on_imp (draw_on fd6 fl6 (by rw [List.length_map]; omega) (by rw [List.length_map]; omega) (by omega)) ?_
                rintro _ M7 ⟨t, rfl, t0, t1, fd7, fr7, fl7⟩
                obtain ⟨d, e1', e2'⟩ := at_in t0 t1
                rw [List.getElem?_map] at e2'
                cases e3 : zs[t.toNat]? with
                | none => rw [e3] at e2'; cases e2'
                | some e =>
                  rw [e3] at e2'
                  cases e2'
                  have em := hzs e (List.mem_of_getElem? e3)
                  have lS7 := fr7.get lS6 (by simpa using nSf)
                  have frD : Fr [f, S] M1 M7 := frC.trans (fr7.wide (by simp))
                  rw [ixLd e1']
                  try simp only [onO_nx, onO_rt, onO_bad, onO_out, onO_ite, on_ite, onO_seq, onO_skip, onO_if, onO_ret, onO_set, onO_ex, onO_for, on_bindI, on_okI, on_badI, fCall, fCons, fNil, fPv, fC, fOp, fTest, fNotT, fAndT, fOrT, fAndV, fOrV, fNotV, fIf, fTup, fLst, fLstM, fSl, fPart, fNoP, fMethL, fNeg, fPut, fPar, fAsg, fYes, List.getElem?_cons_zero, List.getElem?_cons_succ, List.set_cons_zero, List.set_cons_succ, List.map_cons, List.map_nil, List.nil_append, List.cons_append, List.length_cons, List.length_nil, List.reduceReplicate, Nat.reduceSub, Nat.reduceAdd, Nat.zero_add, Bool.not_true, Bool.not_false, if_true, if_false, reduceIte, Bool.false_eq_true, reduceCtorEq, datas, Option.map_some, Option.bind_some, e_add, e_sub, e_lt, e_le, e_gt, e_ge, e_eqI, e_eqB, e_neI, e_neT, e_lenL, e_lenT, ixN43, ixN42, ixN41, ixN10, decide_true, decide_false]
                  rw [cat_whr]
                  try simp only [onO_nx, onO_rt, onO_bad, onO_out, onO_ite, on_ite, onO_seq, onO_skip, onO_if, onO_ret, onO_set, onO_ex, onO_for, on_bindI, on_okI, on_badI, fCall, fCons, fNil, fPv, fC, fOp, fTest, fNotT, fAndT, fOrT, fAndV, fOrV, fNotV, fIf, fTup, fLst, fLstM, fSl, fPart, fNoP, fMethL, fNeg, fPut, fPar, fAsg, fYes, List.getElem?_cons_zero, List.getElem?_cons_succ, List.set_cons_zero, List.set_cons_succ, List.map_cons, List.map_nil, List.nil_append, List.cons_append, List.length_cons, List.length_nil, List.reduceReplicate, Nat.reduceSub, Nat.reduceAdd, Nat.zero_add, Bool.not_true, Bool.not_false, if_true, if_false, reduceIte, Bool.false_eq_true, reduceCtorEq, datas, Option.map_some, Option.bind_some, e_add, e_sub, e_lt, e_le, e_gt, e_ge, e_eqI, e_eqB, e_neI, e_neT, e_lenL, e_lenT, ixN43, ixN42, ixN41, ixN10, decide_true, decide_false]
                  have sk : SpOk (Sp'.whr e.1 e.2) := ⟨wl_wq _ em.1, em.2⟩
                  rw [e_app lS7 (Nat.lt_of_le_of_lt (show ((ps.map spD).map Wv.d).length ≤ 10 by rw [List.length_map, List.length_map]; omega) (by decide))]
                  try simp only [onO_nx, onO_rt, onO_bad, onO_out, onO_ite, on_ite, onO_seq, onO_skip, onO_if, onO_ret, onO_set, onO_ex, onO_for, on_bindI, on_okI, on_badI, fCall, fCons, fNil, fPv, fC, fOp, fTest, fNotT, fAndT, fOrT, fAndV, fOrV, fNotV, fIf, fTup, fLst, fLstM, fSl, fPart, fNoP, fMethL, fNeg, fPut, fPar, fAsg, fYes, List.getElem?_cons_zero, List.getElem?_cons_succ, List.set_cons_zero, List.set_cons_succ, List.map_cons, List.map_nil, List.nil_append, List.cons_append, List.length_cons, List.length_nil, List.reduceReplicate, Nat.reduceSub, Nat.reduceAdd, Nat.zero_add, Bool.not_true, Bool.not_false, if_true, if_false, reduceIte, Bool.false_eq_true, reduceCtorEq, datas, Option.map_some, Option.bind_some, e_add, e_sub, e_lt, e_le, e_gt, e_ge, e_eqI, e_eqB, e_neI, e_neT, e_lenL, e_lenT, ixN43, ixN42, ixN41, ixN10, decide_true, decide_false]
                  have eS : ((ps.map spD).map Wv.d) ++ [Wv.d (spD (Sp'.whr e.1 e.2))] = ((ps ++ [(Sp'.whr e.1 e.2)]).map spD).map Wv.d := by simp
                  refine ⟨_, _, _, _, _, _, _, ps ++ [(Sp'.whr e.1 e.2)], rfl, gv.up, ((fd7).fr (S := [S]) (Fr.set (by simp)) (by simpa using nSf.symm)).up (by omega), by rw [← eS]; exact put4 lS7, fun p hp => (List.mem_append.mp hp).elim (fun z => pok p z) (fun z => by rw [List.mem_singleton.mp z]; exact sk), by rw [List.length_append]; simp [pl], (frD).trans (Fr.set (by simp)), Flat.set fl7 (by have z := fl_ds ((ps ++ [(Sp'.whr e.1 e.2)]).map spD); rw [← eS] at z; exact z)⟩
  case fin =>
    rintro _ M3 ⟨h, x4, x5, x6, x7, x8, x9, ps, rfl, hv, fd, lS, pok, pl, fr, fl⟩
    rw [rng_len] at fd pl
    refine ⟨trivial, ?_⟩
    try simp only [onO_nx, onO_rt, onO_bad, onO_out, onO_ite, on_ite, onO_seq, onO_skip, onO_if, onO_ret, onO_set, onO_ex, onO_for, on_bindI, on_okI, on_badI, fCall, fCons, fNil, fPv, fC, fOp, fTest, fNotT, fAndT, fOrT, fAndV, fOrV, fNotV, fIf, fTup, fLst, fLstM, fSl, fPart, fNoP, fMethL, fNeg, fPut, fPar, fAsg, fYes, List.getElem?_cons_zero, List.getElem?_cons_succ, List.set_cons_zero, List.set_cons_succ, List.map_cons, List.map_nil, List.nil_append, List.cons_append, List.length_cons, List.length_nil, List.reduceReplicate, Nat.reduceSub, Nat.reduceAdd, Nat.zero_add, Bool.not_true, Bool.not_false, if_true, if_false, reduceIte, Bool.false_eq_true, reduceCtorEq, datas, Option.map_some, Option.bind_some, e_add, e_sub, e_lt, e_le, e_gt, e_ge, e_eqI, e_eqB, e_neI, e_neT, e_lenL, e_lenT, ixN43, ixN42, ixN41, ixN10, decide_true, decide_false, oTuple, lsv, lS, datas_d]
    have fr' : Fr [f, S] (M ++ [Ob.lst []]) M3 := by rw [hM1]; exact fr
    refine fin_back (S' := [f]) fr' fl (fun y hy hz => ?_) fun fr6 fl6 => ⟨ps, rfl, pok, by omega, (fd.up (by omega)).take hf.lt, fr6, fl6⟩
    simp only [List.mem_cons, List.not_mem_nil, or_false] at hy ⊢
    omega
end Fu

set_option Elab.async false
set_option linter.all false
set_option maxRecDepth 100000
set_option maxHeartbeats 1000000
/-! What is compared has its text. -/
namespace Fu
open PySem PySem.Spec PyProof.Rows L2 Dat LamX PySem.W
theorem SpOk.g {s : Sp'} (h : SpOk s) : SpG s := by
  cases s with
  | fld w => exact h
  | num k => show k ≤ 10 ^ 30; have h : k ≤ 200 := h; omega
  | each => exact h
  | whr w p => exact h
theorem VG.up {n : Nat} {d : PyData} (h : VG n d) : VG (n + 1) d := by
  induction h with
  | plain h => exact .plain h
  | row a _ ih => exact .row a ih
  | tree a b c _ ih => exact .tree a b c ih
theorem val_vg : ∀ (ks : List Key) {n : Nat} {d v : PyData}, VG n d → szD d ≤ 13000 → valAt d ks = some v → VG n v ∧ szD v ≤ 13000
  | [], n, d, v, h, hz, e => by cases e; exact ⟨h, hz⟩
  | k :: ks, n, d, v, h, hz, e => by
    have e : ks.foldl (fun o k => o.bind fun e => getD (thD e) k) (getD (thD d) k) = some v := e
    cases g : getD (thD d) k with
    | none => rw [g, val_none] at e; cases e
    | some u =>
      rw [g] at e
      have hu : VG n u := (thD_vg h _ (getD_mem g)).1
      have a1 : szD u ≤ wt (thD d) := wt_mem (getD_mem g)
      have a2 := th_sz h
      exact val_vg ks hu (by omega) e
theorem repr_own {n : Nat} {d : PyData} {ks : List Key} {M : Sto} (h : VG n d) (hn : n ≤ 15) (hz : szD d ≤ 13000) : ∃ t, oRepr [.d ((valAt d ks).getD .none)] M = .ok (.d (.str t)) M := by
  cases e : valAt d ks with
  | none => exact ⟨_, rfl⟩
  | some v =>
    have hv := val_vg ks h hz e
    have ok := vg_ok hv.1
    exact ⟨_, repr_eq (d := v) ok.1 (by omega) (by have := hv.2; omega)⟩
theorem sp_data {s : Sp'} (h : SpG s) : okD (spD s) = true ∧ (spD s).depth ≤ 1 ∧ szD (spD s) ≤ 700 := by
  have w4 : okD (.str "field") = true ∧ okD (.str "at") = true ∧ okD (.str "each") = true ∧ okD (.str "where") = true := by decide +kernel
  cases s with
  | fld w =>
    have hw := wq_ok w h
    refine ⟨?_, ?_, by simp [spD, szD, szDs]⟩
    · simp [spD, okD, okDs] at *
      exact ⟨w4.1, hw⟩
    · simp [spD, PyData.depth, PyData.depthAll]
  | num k =>
    have h : k ≤ 10 ^ 30 := h
    refine ⟨?_, ?_, by simp [spD, szD, szDs]⟩
    · have : (2 : Nat) ^ 140 = 1393796574908163946345982392040522594123776 := rfl
      simp [spD, okD, okDs] at *
      exact ⟨w4.2.1, by omega⟩
    · simp [spD, PyData.depth, PyData.depthAll]
  | each =>
    refine ⟨?_, ?_, by simp [spD, szD, szDs]⟩
    · simp [spD, okD, okDs] at *
      exact w4.2.2.1
    · simp [spD, PyData.depth, PyData.depthAll]
  | whr w p =>
    have hw := wq_ok w h.1
    have hp := pl_ok p h.2
    refine ⟨?_, ?_, by simp [spD, szD, szDs, hp.2.2.1]⟩
    · simp [spD, okD, okDs] at *
      exact ⟨w4.2.2.2, hw, hp.1⟩
    · simp [spD, PyData.depth, PyData.depthAll, hp.2.2.2]
theorem szDs_le {n : Nat} : ∀ {xs : List PyData}, (∀ x ∈ xs, szD x ≤ n) → szDs xs ≤ xs.length * (n + 2)
  | [], _ => by simp [szDs]
  | x :: xs, h => by
    have h1 := h x List.mem_cons_self
    have h2 := szDs_le (xs := xs) fun y hy => h y (List.mem_cons_of_mem _ hy)
    rw [szDs, List.length_cons, Nat.add_mul]
    omega
theorem repr_path {ps : List Sp'} {M : Sto} (h : ∀ p ∈ ps, SpG p) (hl : ps.length ≤ 50) : oRepr [.d (.tuple (ps.map spD))] M = .ok (.d (.str (PyData.tuple (ps.map spD)).shown)) M := by
  refine repr_eq (ok_tup (by rw [List.length_map]; omega) fun x hx => ?_) (Nat.le_trans (dep_tup (n := 1) fun x hx => ?_) (by decide)) ?_
  · obtain ⟨p, hp, rfl⟩ := List.mem_map.mp hx
    exact (sp_data (h p hp)).1
  · obtain ⟨p, hp, rfl⟩ := List.mem_map.mp hx
    exact (sp_data (h p hp)).2.1
  · have := szDs_le (n := 700) (xs := ps.map spD) fun x hx => by
      obtain ⟨p, hp, rfl⟩ := List.mem_map.mp hx
      exact (sp_data (h p hp)).2.2
    rw [List.length_map] at this
    simp only [szD]
    omega
theorem th_keys {n : Nat} {d : PyData} (h : VG n d) : ∀ q ∈ thD d, KOk q.1 := by
  cases h with
  | plain h => rw [thD_plain (px_ok _ h).2.1]; intro q hq; cases hq
  | row hl _ =>
    rw [thD_row]
    intro q hq
    obtain ⟨j, _, h2, h3, _⟩ := enL_keys _ _ q hq
    rw [h3]
    exact ⟨by omega, by omega⟩
  | tree _ hw _ _ =>
    rw [thD_tree]
    intro q hq
    obtain ⟨e, he, rfl⟩ := List.mem_map.mp hq
    exact wl_wq _ (hw e he)
theorem foundS_keys {n : Nat} {L : List (List Key × PyData)} {s : Sp'} (h : ∀ q ∈ L, VG n q.2 ∧ ∀ k ∈ q.1, KOk k) : ∀ q ∈ foundS L s, VG n q.2 ∧ ∀ k ∈ q.1, KOk k := fun q hq => by
  obtain ⟨p, hp, hq⟩ := List.mem_flatMap.mp hq
  obtain ⟨r, hr, rfl⟩ := List.mem_map.mp hq
  refine ⟨comes_vg (h p hp).1 s r hr, fun k hk => ?_⟩
  rcases List.mem_append.mp hk with z | z
  · exact (h p hp).2 k z
  · rw [List.mem_singleton.mp z]
    exact th_keys (h p hp).1 r ((comes_sub _ _).subset hr)
theorem found_keys {n : Nat} : ∀ (ss : List Sp') {L : List (List Key × PyData)}, (∀ q ∈ L, VG n q.2 ∧ ∀ k ∈ q.1, KOk k) → ∀ q ∈ ss.foldl foundS L, VG n q.2 ∧ ∀ k ∈ q.1, KOk k
  | [], _, h => h
  | s :: ss, _, h => found_keys ss (foundS_keys h)
theorem found_all {n : Nat} {d : PyData} {ss : List Sp'} (h : VG n d) (hz : szD d ≤ 13000) (hl : ss.length ≤ 50) : (∀ q ∈ foundD d ss, VG n q.2 ∧ q.1.length ≤ 50 ∧ ∀ k ∈ q.1, KOk k) ∧ wt (foundD d ss) ≤ 13000 := by
  obtain ⟨h1, h2⟩ := found_sz h hz ss ss.length
  rw [List.take_length] at h1 h2
  have h3 := found_keys ss (n := n) (L := [([], d)]) (by intro q hq; rw [List.mem_singleton.mp hq]; exact ⟨h, by simp⟩)
  exact ⟨fun q hq => ⟨(h1 q hq).1, by have := (h1 q hq).2; omega, (h3 q hq).2⟩, h2⟩
theorem fl_data {n : Nat} {q : List Key × PyData} (h : VG n q.2) (hn : n ≤ 15) (hl : q.1.length ≤ 50) (hk : ∀ k ∈ q.1, KOk k) : okD (flD q) = true ∧ (flD q).depth ≤ 46 ∧ szD (flD q) ≤ szD q.2 + 10150 := by
  have p := pl_data hk (by omega)
  have v := vg_ok h
  refine ⟨ok_tup (by simp) fun x hx => ?_, dep_tup (n := 45) fun x hx => ?_, ?_⟩
  · simp only [List.mem_cons, List.not_mem_nil, or_false] at hx
    rcases hx with rfl | rfl
    · exact p.1
    · exact v.1
  · simp only [List.mem_cons, List.not_mem_nil, or_false] at hx
    rcases hx with rfl | rfl
    · exact Nat.le_trans p.2 (by decide)
    · omega
  · have a := szDs_le (n := 200) (xs := q.1.map dK) fun x hx => by
      obtain ⟨k, hk', rfl⟩ := List.mem_map.mp hx
      rw [(key_ok (hk k hk')).2.2]
      exact Nat.le_refl _
    rw [List.length_map] at a
    simp only [flD, szD, szDs]
    omega
theorem szDs_fl {n : Nat} (hn : n ≤ 15) : ∀ {L : List (List Key × PyData)}, (∀ q ∈ L, VG n q.2 ∧ q.1.length ≤ 50 ∧ ∀ k ∈ q.1, KOk k) → szDs (L.map flD) ≤ wt L + 10152 * L.length
  | [], _ => by simp [szDs]
  | q :: L, h => by
    have h1 := fl_data (h q List.mem_cons_self).1 hn (h q List.mem_cons_self).2.1 (h q List.mem_cons_self).2.2
    have h2 := szDs_fl hn (L := L) fun r hr => h r (List.mem_cons_of_mem _ hr)
    simp only [wt, List.map_cons, List.sum_cons, List.length_cons, szDs] at h2 ⊢
    omega
theorem repr_found {n : Nat} {d : PyData} {ss : List Sp'} {M : Sto} (h : VG n d) (hn : n ≤ 15) (hz : szD d ≤ 13000) (hl : ss.length ≤ 50) :
    oRepr [.d (.tuple ((foundD d ss).map flD))] M = .ok (.d (.str (PyData.tuple ((foundD d ss).map flD)).shown)) M := by
  obtain ⟨h1, h2⟩ := found_all h hz hl
  have l65 := found_len (m := 50) (fun q hq => ⟨(h1 q hq).1, (h1 q hq).2.1⟩) h2
  refine repr_eq (ok_tup (by rw [List.length_map]; omega) fun x hx => ?_) (Nat.le_trans (dep_tup (n := 46) fun x hx => ?_) (by decide)) ?_
  · obtain ⟨q, hq, rfl⟩ := List.mem_map.mp hx
    exact (fl_data (h1 q hq).1 hn (h1 q hq).2.1 (h1 q hq).2.2).1
  · obtain ⟨q, hq, rfl⟩ := List.mem_map.mp hx
    exact (fl_data (h1 q hq).1 hn (h1 q hq).2.1 (h1 q hq).2.2).2.1
  · have := szDs_fl hn h1
    simp only [szD]
    omega
theorem repr_vg {n : Nat} {d : PyData} {M : Sto} (h : VG n d) (hn : n ≤ 15) (hz : szD d ≤ 13000) : oRepr [.d d] M = .ok (.d (.str d.shown)) M := by
  have := vg_ok h
  exact repr_eq this.1 (by omega) (by omega)
end Fu

set_option Elab.async false
set_option linter.all false
set_option maxRecDepth 100000
set_option maxHeartbeats 1000000
/-! The law. -/
namespace Fu
open PySem PySem.Spec PyProof.Rows L2 Dat LamX PySem.W
theorem e_catL {xs ys : List PyData} {M : Sto} (h : xs.length + ys.length ≤ 1000) : oCatL (.d (.list xs)) (.d (.list ys)) M = .ok (.d (.list (xs ++ ys))) M := by
  simp only [oCatL, lsv, datas_d, Option.bind_some]
  exact if_pos (Nat.le_trans h (by decide))
/-- one place -/
theorem law1_on {n : Nat} {v : PyData} {ks : List Key} {M : Sto} {nx : Slo → Sto → Prop} {rt : Wv → Sto → Prop} {w0 w1 w2 w3 w4 w6 w7 w8 w9 w10 w12 w13 w14 w15 w16 w17 w18 : Option Wv} (hv : VG n v) (hn : n ≤ 15) (hz : szD v ≤ 13000) (hk : ∀ k ∈ ks, KOk k) (fl : Flat M)
    (q : ∀ x, nx [w0, w1, w2, w3, w4, some (.d v), w6, w7, w8, w9, w10, some (.d (plD ks)), x, w13, w14, w15, w16, w17, w18] M) :
    (B_law_1 [w0, w1, w2, w3, w4, some (.d v), w6, w7, w8, w9, w10, some (.d (plD ks)), w12, w13, w14, w15, w16, w17, w18] M).on nx rt := by
  unfold B_law_1
  have e1 : F_lat [.d v, .d (plD ks)] M = .ok (.d (.list (valAt v ks).toList)) M := lat_eq hv hn hz fl hk
  have e2 : F_valueat [.d v, .d (plD ks)] M = .ok (.d ((valAt v ks).getD .none)) M := valueat_eq hv fl
  have e3 : oCatL (.d (.list (valAt v ks).toList)) (.d (.list [.none])) M = .ok (.d (.list ((valAt v ks).toList ++ [.none]))) M := e_catL (by cases valAt v ks <;> simp)
  have e4 : oIxL (.d (.list ((valAt v ks).toList ++ [.none]))) (.d (.int 0)) M = .ok (.d ((valAt v ks).getD .none)) M := by
    cases valAt v ks with
    | none => exact ixLd at0
    | some u => exact ixLd at0
  obtain ⟨t, e5⟩ := repr_own (M := M) (ks := ks) hv hn hz
  try simp only [onO_nx, onO_rt, onO_bad, onO_out, onO_ite, on_ite, onO_seq, onO_skip, onO_if, onO_ret, onO_set, onO_ex, onO_for, on_bindI, on_okI, on_badI, fCall, fCons, fNil, fPv, fC, fOp, fTest, fNotT, fAndT, fOrT, fAndV, fOrV, fNotV, fIf, fTup, fLst, fLstM, fSl, fPart, fNoP, fMethL, fNeg, fPut, fPar, fAsg, fYes, List.getElem?_cons_zero, List.getElem?_cons_succ, List.set_cons_zero, List.set_cons_succ, List.map_cons, List.map_nil, List.nil_append, List.cons_append, List.length_cons, List.length_nil, List.reduceReplicate, Nat.reduceSub, Nat.reduceAdd, Nat.zero_add, Bool.not_true, Bool.not_false, if_true, if_false, reduceIte, Bool.false_eq_true, reduceCtorEq, datas, Option.map_some, Option.bind_some, e_add, e_sub, e_lt, e_le, e_gt, e_ge, e_eqI, e_eqB, e_neI, e_neT, e_lenL, e_lenT, ixN43, ixN42, ixN41, ixN10, decide_true, decide_false, e1, e2, e3, e4, e5, show (1 : Nat) ≤ sizeLine from by decide, BEq.rfl]
  exact q _
/-- one path -/
theorem law2_on {v : PyData} {m : Nat} {M : Sto} {nx : Slo → Sto → Prop} {rt : Wv → Sto → Prop} {w0 w2 w3 w4 w6 w7 w8 w9 w10 w11 w12 w13 w14 w15 w16 w17 w18 : Option Wv} (hv : VD 4 v) (hz : szD v ≤ 13000) (fd : Feed M 0 m) (hm : m + 200 ≤ 999999000) (fl : Flat M)
    (q : ∀ x8 x9 x10 x11 x12 M', Feed M' 0 (m + 50) → Fr [0] M M' → Flat M' → nx [w0, some (.r 0), w2, w3, w4, some (.d v), w6, w7, x8, x9, x10, x11, x12, w13, w14, w15, w16, w17, w18] M') :
    (B_law_2 [w0, some (.r 0), w2, w3, w4, some (.d v), w6, w7, w8, w9, w10, w11, w12, w13, w14, w15, w16, w17, w18] M).on nx rt := by
  unfold B_law_2
  try simp only [onO_nx, onO_rt, onO_bad, onO_out, onO_ite, on_ite, onO_seq, onO_skip, onO_if, onO_ret, onO_set, onO_ex, onO_for, on_bindI, on_okI, on_badI, fCall, fCons, fNil, fPv, fC, fOp, fTest, fNotT, fAndT, fOrT, fAndV, fOrV, fNotV, fIf, fTup, fLst, fLstM, fSl, fPart, fNoP, fMethL, fNeg, fPut, fPar, fAsg, fYes, List.getElem?_cons_zero, List.getElem?_cons_succ, List.set_cons_zero, List.set_cons_succ, List.map_cons, List.map_nil, List.nil_append, List.cons_append, List.length_cons, List.length_nil, List.reduceReplicate, Nat.reduceSub, Nat.reduceAdd, Nat.zero_add, Bool.not_true, Bool.not_false, if_true, if_false, reduceIte, Bool.false_eq_true, reduceCtorEq, datas, Option.map_some, Option.bind_some, e_add, e_sub, e_lt, e_le, e_gt, e_ge, e_eqI, e_eqB, e_neI, e_neT, e_lenL, e_lenT, ixN43, ixN42, ixN41, ixN10, decide_true, decide_false]
  refine on_imp (path_on fd fl (by omega) hv) ?_
  rintro _ M1 ⟨ps, rfl, pok, p5, fd1, fr1, fl1⟩
  have pg : ∀ p ∈ ps, SpG p := fun p hp => (pok p hp).g
  have e1 := lfound_eq (M := M1) (ss := ps) hv.vg (by decide) hz fl1 pg (by omega)
  have e2 := foundin_eq (M := M1) (ss := ps) hv.vg (by decide) hz fl1 pg (by omega)
  have e3 := repr_path (M := M1) pg (by omega)
  have e4 := repr_found (M := M1) (ss := ps) hv.vg (by decide) hz (by omega)
  have e5 : oTuple [.d (.list ((foundD v ps).map flD))] M1 = .ok (.d (.tuple ((foundD v ps).map flD))) M1 := by
    simp only [oTuple, lsv, datas_d, Option.bind_some]
  obtain ⟨h1, h2⟩ := found_all (ss := ps) hv.vg hz (by omega)
  have l65 := found_len (m := 50) (fun q hq => ⟨(h1 q hq).1, (h1 q hq).2.1⟩) h2
  have e6 : oCatT (.d (.tuple ((foundD v ps).map flD))) (.d (.tuple [.tuple [.tuple [], .none]])) M1 = .ok (.d (.tuple ((foundD v ps).map flD ++ [.tuple [.tuple [], .none]]))) M1 := by
    simp only [oCatT]
    exact if_pos (Nat.le_trans (show ((foundD v ps).map flD).length + 1 ≤ 100 by rw [List.length_map]; omega) (by decide))
  obtain ⟨ks, e7, kk, kl⟩ : ∃ ks : List Key, (∃ u, oIxT (.d (.tuple ((foundD v ps).map flD ++ [.tuple [.tuple [], .none]]))) (.d (.int 0)) M1 = .ok (.d (.tuple [plD ks, u])) M1) ∧ (∀ k ∈ ks, KOk k) ∧ ks.length ≤ 5 := by
    obtain ⟨g1, g2⟩ := found_sz (ss := ps) hv.vg hz ps.length
    rw [List.take_length] at g1
    cases e : foundD v ps with
    | nil => exact ⟨[], ⟨_, ixTd at0⟩, by simp, by simp⟩
    | cons q L =>
      rw [e] at h1 g1
      exact ⟨q.1, ⟨q.2, ixTd at0⟩, (h1 q List.mem_cons_self).2.2, by have := (g1 q List.mem_cons_self).2; omega⟩
  obtain ⟨u, e7⟩ := e7
  have e8 : oIxT (.d (.tuple [plD ks, u])) (.d (.int 0)) M1 = .ok (.d (plD ks)) M1 := ixTd at0
  try simp only [onO_nx, onO_rt, onO_bad, onO_out, onO_ite, on_ite, onO_seq, onO_skip, onO_if, onO_ret, onO_set, onO_ex, onO_for, on_bindI, on_okI, on_badI, fCall, fCons, fNil, fPv, fC, fOp, fTest, fNotT, fAndT, fOrT, fAndV, fOrV, fNotV, fIf, fTup, fLst, fLstM, fSl, fPart, fNoP, fMethL, fNeg, fPut, fPar, fAsg, fYes, List.getElem?_cons_zero, List.getElem?_cons_succ, List.set_cons_zero, List.set_cons_succ, List.map_cons, List.map_nil, List.nil_append, List.cons_append, List.length_cons, List.length_nil, List.reduceReplicate, Nat.reduceSub, Nat.reduceAdd, Nat.zero_add, Bool.not_true, Bool.not_false, if_true, if_false, reduceIte, Bool.false_eq_true, reduceCtorEq, datas, Option.map_some, Option.bind_some, e_add, e_sub, e_lt, e_le, e_gt, e_ge, e_eqI, e_eqB, e_neI, e_neT, e_lenL, e_lenT, ixN43, ixN42, ixN41, ixN10, decide_true, decide_false, e1, e2, e3, e4, e5, BEq.rfl, Bool.not_true, Bool.false_eq_true, if_false]
  try simp only [onO_nx, onO_rt, onO_bad, onO_out, onO_ite, on_ite, onO_seq, onO_skip, onO_if, onO_ret, onO_set, onO_ex, onO_for, on_bindI, on_okI, on_badI, fCall, fCons, fNil, fPv, fC, fOp, fTest, fNotT, fAndT, fOrT, fAndV, fOrV, fNotV, fIf, fTup, fLst, fLstM, fSl, fPart, fNoP, fMethL, fNeg, fPut, fPar, fAsg, fYes, List.getElem?_cons_zero, List.getElem?_cons_succ, List.set_cons_zero, List.set_cons_succ, List.map_cons, List.map_nil, List.nil_append, List.cons_append, List.length_cons, List.length_nil, List.reduceReplicate, Nat.reduceSub, Nat.reduceAdd, Nat.zero_add, Bool.not_true, Bool.not_false, if_true, if_false, reduceIte, Bool.false_eq_true, reduceCtorEq, datas, Option.map_some, Option.bind_some, e_add, e_sub, e_lt, e_le, e_gt, e_ge, e_eqI, e_eqB, e_neI, e_neT, e_lenL, e_lenT, ixN43, ixN42, ixN41, ixN10, decide_true, decide_false, e6, e7, e8, show (0 : Nat) ≤ sizeLine from by decide, show (1 : Nat) ≤ sizeLine from by decide, show (2 : Nat) ≤ sizeLine from by decide]
  unfold fiL
  try simp only [onO_nx, onO_rt, onO_bad, onO_out, onO_ite, on_ite, onO_seq, onO_skip, onO_if, onO_ret, onO_set, onO_ex, onO_for, on_bindI, on_okI, on_badI, fCall, fCons, fNil, fPv, fC, fOp, fTest, fNotT, fAndT, fOrT, fAndV, fOrV, fNotV, fIf, fTup, fLst, fLstM, fSl, fPart, fNoP, fMethL, fNeg, fPut, fPar, fAsg, fYes, List.getElem?_cons_zero, List.getElem?_cons_succ, List.set_cons_zero, List.set_cons_succ, List.map_cons, List.map_nil, List.nil_append, List.cons_append, List.length_cons, List.length_nil, List.reduceReplicate, Nat.reduceSub, Nat.reduceAdd, Nat.zero_add, Bool.not_true, Bool.not_false, if_true, if_false, reduceIte, Bool.false_eq_true, reduceCtorEq, datas, Option.map_some, Option.bind_some, e_add, e_sub, e_lt, e_le, e_gt, e_ge, e_eqI, e_eqB, e_neI, e_neT, e_lenL, e_lenT, ixN43, ixN42, ixN41, ixN10, decide_true, decide_false, e6, e7, e8, show (0 : Nat) ≤ sizeLine from by decide, show (1 : Nat) ≤ sizeLine from by decide, show (2 : Nat) ≤ sizeLine from by decide]
  refine on_imp (places_on fd1 fl1 (by omega) kk (by omega)) ?_
  rintro _ M2 ⟨pls, rfl, pk, pll, fd2, fr2, fl2⟩
  try simp only [onO_nx, onO_rt, onO_bad, onO_out, onO_ite, on_ite, onO_seq, onO_skip, onO_if, onO_ret, onO_set, onO_ex, onO_for, on_bindI, on_okI, on_badI, fCall, fCons, fNil, fPv, fC, fOp, fTest, fNotT, fAndT, fOrT, fAndV, fOrV, fNotV, fIf, fTup, fLst, fLstM, fSl, fPart, fNoP, fMethL, fNeg, fPut, fPar, fAsg, fYes, List.getElem?_cons_zero, List.getElem?_cons_succ, List.set_cons_zero, List.set_cons_succ, List.map_cons, List.map_nil, List.nil_append, List.cons_append, List.length_cons, List.length_nil, List.reduceReplicate, Nat.reduceSub, Nat.reduceAdd, Nat.zero_add, Bool.not_true, Bool.not_false, if_true, if_false, reduceIte, Bool.false_eq_true, reduceCtorEq, datas, Option.map_some, Option.bind_some, e_add, e_sub, e_lt, e_le, e_gt, e_ge, e_eqI, e_eqB, e_neI, e_neT, e_lenL, e_lenT, ixN43, ixN42, ixN41, ixN10, decide_true, decide_false]
  refine for_on (fun i sd M3 => ∃ x11 x12, sd = [w0, some (.r 0), w2, w3, w4, some (.d v), w6, w7, some (.d (.tuple (ps.map spD))), some (.d (.tuple ((foundD v ps).map flD))), some (.d (.str (PyData.tuple (ps.map spD)).shown)), x11, x12, w13, w14, w15, w16, w17, w18] ∧ M2 = M3) ?st ?fin ⟨_, _, rfl, rfl⟩
  case st =>
    rintro i it _ _ hi ⟨x11, x12, rfl, rfl⟩
    obtain ⟨e, he, rfl⟩ := its_at hi
    rw [List.getElem?_map] at he
    cases ek : pls[i]? with
    | none => rw [ek] at he; cases he
    | some js =>
      rw [ek] at he
      cases he
      exact ⟨trivial, _, rfl, law1_on hv.vg (by decide) hz (pk js (List.mem_of_getElem? ek)) fl2 fun x => ⟨_, _, rfl, rfl⟩⟩
  case fin =>
    rintro _ _ ⟨x11, x12, rfl, rfl⟩
    exact ⟨trivial, q _ _ _ _ _ M2 (fd2.up (by omega)) (fr1.trans fr2) fl2⟩
/-- one value -/
theorem law3_on {v : PyData} {m : Nat} {M : Sto} {nx : Slo → Sto → Prop} {rt : Wv → Sto → Prop} {w0 w2 w3 w4 w6 w7 w8 w9 w10 w11 w12 w13 w14 w15 w16 w17 w18 : Option Wv} (hv : VD 4 v) (hz : szD v ≤ 13000) (fd : Feed M 0 m) (hm : m + 1000 ≤ 999999000) (fl : Flat M)
    (q : ∀ x6 x7 x8 x9 x10 x11 x12 M', Feed M' 0 (m + 300) → Fr [0] M M' → Flat M' → nx [w0, some (.r 0), w2, w3, w4, some (.d v), x6, x7, x8, x9, x10, x11, x12, w13, w14, w15, w16, w17, w18] M') :
    (B_law_3 [w0, some (.r 0), w2, w3, w4, some (.d v), w6, w7, w8, w9, w10, w11, w12, w13, w14, w15, w16, w17, w18] M).on nx rt := by
  unfold B_law_3 fiR1
  try simp only [onO_nx, onO_rt, onO_bad, onO_out, onO_ite, on_ite, onO_seq, onO_skip, onO_if, onO_ret, onO_set, onO_ex, onO_for, on_bindI, on_okI, on_badI, fCall, fCons, fNil, fPv, fC, fOp, fTest, fNotT, fAndT, fOrT, fAndV, fOrV, fNotV, fIf, fTup, fLst, fLstM, fSl, fPart, fNoP, fMethL, fNeg, fPut, fPar, fAsg, fYes, List.getElem?_cons_zero, List.getElem?_cons_succ, List.set_cons_zero, List.set_cons_succ, List.map_cons, List.map_nil, List.nil_append, List.cons_append, List.length_cons, List.length_nil, List.reduceReplicate, Nat.reduceSub, Nat.reduceAdd, Nat.zero_add, Bool.not_true, Bool.not_false, if_true, if_false, reduceIte, Bool.false_eq_true, reduceCtorEq, datas, Option.map_some, Option.bind_some, e_add, e_sub, e_lt, e_le, e_gt, e_ge, e_eqI, e_eqB, e_neI, e_neT, e_lenL, e_lenT, ixN43, ixN42, ixN41, ixN10, decide_true, decide_false, repr_vg (M := M) hv.vg (by decide) hz]
  rw [if_pos (by decide)]
  try simp only [onO_nx, onO_rt, onO_bad, onO_out, onO_ite, on_ite, onO_seq, onO_skip, onO_if, onO_ret, onO_set, onO_ex, onO_for, on_bindI, on_okI, on_badI, fCall, fCons, fNil, fPv, fC, fOp, fTest, fNotT, fAndT, fOrT, fAndV, fOrV, fNotV, fIf, fTup, fLst, fLstM, fSl, fPart, fNoP, fMethL, fNeg, fPut, fPar, fAsg, fYes, List.getElem?_cons_zero, List.getElem?_cons_succ, List.set_cons_zero, List.set_cons_succ, List.map_cons, List.map_nil, List.nil_append, List.cons_append, List.length_cons, List.length_nil, List.reduceReplicate, Nat.reduceSub, Nat.reduceAdd, Nat.zero_add, Bool.not_true, Bool.not_false, if_true, if_false, reduceIte, Bool.false_eq_true, reduceCtorEq, datas, Option.map_some, Option.bind_some, e_add, e_sub, e_lt, e_le, e_gt, e_ge, e_eqI, e_eqB, e_neI, e_neT, e_lenL, e_lenT, ixN43, ixN42, ixN41, ixN10, decide_true, decide_false]
  refine for_on (fun i sd M3 => ∃ x7 x8 x9 x10 x11 x12, sd = [w0, some (.r 0), w2, w3, w4, some (.d v), some (.d (.str v.shown)), x7, x8, x9, x10, x11, x12, w13, w14, w15, w16, w17, w18] ∧ Feed M3 0 (m + 50 * i) ∧ Fr [0] M M3 ∧ Flat M3) ?st ?fin ⟨_, _, _, _, _, _, rfl, by simpa using fd, Fr.refl _ _, fl⟩
  case st =>
    rintro i it _ M3 hi ⟨x7, x8, x9, x10, x11, x12, rfl, fd3, fr3, fl3⟩
    obtain ⟨hlt, rfl⟩ := rng_at hi
    have hlt : i < 5 := hlt
    exact ⟨trivial, _, rfl, law2_on hv hz fd3 (by omega) fl3 fun y8 y9 y10 y11 y12 M' fd' fr' fl' => ⟨_, _, _, _, _, _, rfl, fd'.up (by omega), fr3.trans fr', fl'⟩⟩
  case fin =>
    rintro _ M3 ⟨x7, x8, x9, x10, x11, x12, rfl, fd3, fr3, fl3⟩
    rw [rng_len] at fd3
    refine ⟨trivial, ?_⟩
    try simp only [onO_nx, onO_rt, onO_bad, onO_out, onO_ite, on_ite, onO_seq, onO_skip, onO_if, onO_ret, onO_set, onO_ex, onO_for, on_bindI, on_okI, on_badI, fCall, fCons, fNil, fPv, fC, fOp, fTest, fNotT, fAndT, fOrT, fAndV, fOrV, fNotV, fIf, fTup, fLst, fLstM, fSl, fPart, fNoP, fMethL, fNeg, fPut, fPar, fAsg, fYes, List.getElem?_cons_zero, List.getElem?_cons_succ, List.set_cons_zero, List.set_cons_succ, List.map_cons, List.map_nil, List.nil_append, List.cons_append, List.length_cons, List.length_nil, List.reduceReplicate, Nat.reduceSub, Nat.reduceAdd, Nat.zero_add, Bool.not_true, Bool.not_false, if_true, if_false, reduceIte, Bool.false_eq_true, reduceCtorEq, datas, Option.map_some, Option.bind_some, e_add, e_sub, e_lt, e_le, e_gt, e_ge, e_eqI, e_eqB, e_neI, e_neT, e_lenL, e_lenT, ixN43, ixN42, ixN41, ixN10, decide_true, decide_false, repr_vg (M := M3) hv.vg (by decide) hz, BEq.rfl]
    exact q _ _ _ _ _ _ _ M3 (fd3.up (by show m + 50 * 5 ≤ _; omega)) fr3 fl3
/-- one step behind a field -/
theorem cmp_on {n : Nat} {d : PyData} {ps : List Sp'} {M : Sto} (hd : VG n d) (hn : n ≤ 15) (hz : szD d ≤ 13000) (fl : Flat M) (pg : ∀ p ∈ ps, SpG p) (hl : ps.length ≤ 50) : ∃ t, (∃ a, F_foundin [.d d, .d (.tuple (ps.map spD))] M = .ok a M ∧ oRepr [a] M = .ok (.d (.str t)) M) ∧
    ∃ b c, F_lfound [.d d, .d (.tuple (ps.map spD))] M = .ok b M ∧ oTuple [b] M = .ok c M ∧ oRepr [c] M = .ok (.d (.str t)) M := by
  refine ⟨_, ⟨_, foundin_eq hd (by omega) hz fl pg hl, repr_found hd hn hz hl⟩, _, _, lfound_eq hd hn hz fl pg hl, ?_, repr_found hd hn hz hl⟩
  simp only [oTuple, lsv, datas_d, Option.bind_some]
theorem law4_on {n : Nat} {d : PyData} {w : Str} {s : Sp'} {M : Sto} {nx : Slo → Sto → Prop} {rt : Wv → Sto → Prop} {w0 w1 w2 w4 w5 w6 w7 w8 w9 w10 w11 w12 w14 w16 w17 w18 : Option Wv} (hd : VG n d) (hn : n ≤ 15) (hz : szD d ≤ 13000) (hw : w ∈ WQ) (hs : SpG s) (fl : Flat M)
    (q : ∀ x, nx [w0, w1, w2, some (.d d), w4, w5, w6, w7, x, w9, w10, w11, w12, some (.d (.str w)), w14, some (.d (spD s)), w16, w17, w18] M) :
    (B_law_4 [w0, w1, w2, some (.d d), w4, w5, w6, w7, w8, w9, w10, w11, w12, some (.d (.str w)), w14, some (.d (spD s)), w16, w17, w18] M).on nx rt := by
  unfold B_law_4
  obtain ⟨t, ⟨a, e1, e2⟩, b, c, e3, e4, e5⟩ := cmp_on (M := M) (ps := [.fld w, s]) hd hn hz fl (by intro p hp; simp only [List.mem_cons, List.not_mem_nil, or_false] at hp; rcases hp with rfl | rfl <;> assumption) (by simp)
  have ep : PyData.tuple [.tuple [.str "field", .str w], spD s] = .tuple [spD (.fld w), spD s] := rfl
  simp only [List.map_cons, List.map_nil] at e1 e3
  try simp only [onO_nx, onO_rt, onO_bad, onO_out, onO_ite, on_ite, onO_seq, onO_skip, onO_if, onO_ret, onO_set, onO_ex, onO_for, on_bindI, on_okI, on_badI, fCall, fCons, fNil, fPv, fC, fOp, fTest, fNotT, fAndT, fOrT, fAndV, fOrV, fNotV, fIf, fTup, fLst, fLstM, fSl, fPart, fNoP, fMethL, fNeg, fPut, fPar, fAsg, fYes, List.getElem?_cons_zero, List.getElem?_cons_succ, List.set_cons_zero, List.set_cons_succ, List.map_cons, List.map_nil, List.nil_append, List.cons_append, List.length_cons, List.length_nil, List.reduceReplicate, Nat.reduceSub, Nat.reduceAdd, Nat.zero_add, Bool.not_true, Bool.not_false, if_true, if_false, reduceIte, Bool.false_eq_true, reduceCtorEq, datas, Option.map_some, Option.bind_some, e_add, e_sub, e_lt, e_le, e_gt, e_ge, e_eqI, e_eqB, e_neI, e_neT, e_lenL, e_lenT, ixN43, ixN42, ixN41, ixN10, decide_true, decide_false, show (2 : Nat) ≤ sizeLine from by decide]
  rw [ep]
  try simp only [onO_nx, onO_rt, onO_bad, onO_out, onO_ite, on_ite, onO_seq, onO_skip, onO_if, onO_ret, onO_set, onO_ex, onO_for, on_bindI, on_okI, on_badI, fCall, fCons, fNil, fPv, fC, fOp, fTest, fNotT, fAndT, fOrT, fAndV, fOrV, fNotV, fIf, fTup, fLst, fLstM, fSl, fPart, fNoP, fMethL, fNeg, fPut, fPar, fAsg, fYes, List.getElem?_cons_zero, List.getElem?_cons_succ, List.set_cons_zero, List.set_cons_succ, List.map_cons, List.map_nil, List.nil_append, List.cons_append, List.length_cons, List.length_nil, List.reduceReplicate, Nat.reduceSub, Nat.reduceAdd, Nat.zero_add, Bool.not_true, Bool.not_false, if_true, if_false, reduceIte, Bool.false_eq_true, reduceCtorEq, datas, Option.map_some, Option.bind_some, e_add, e_sub, e_lt, e_le, e_gt, e_ge, e_eqI, e_eqB, e_neI, e_neT, e_lenL, e_lenT, ixN43, ixN42, ixN41, ixN10, decide_true, decide_false, e1, e2, e3, e4, e5, BEq.rfl]
  exact q _
end Fu

set_option Elab.async false
set_option linter.all false
set_option maxRecDepth 100000
set_option maxHeartbeats 1000000
/-! The law, whole. -/
namespace Fu
open PySem PySem.Spec PyProof.Rows L2 Dat LamX PySem.W
theorem e_pow20 {M : Sto} : oPow (.d (.int 10)) (.d (.int 20)) M = .ok (.d (.int (10 ^ 20))) M := rfl
def SS : List Sp' := [.each, .num 0, .num (10 ^ 20), .fld "a", .whr "a" (.int 1), .whr "k" (.str "")]
theorem ss_ok : ∀ s ∈ SS, SpG s := by
  intro s hs
  simp only [SS, List.mem_cons, List.not_mem_nil, or_false] at hs
  rcases hs with rfl | rfl | rfl | rfl | rfl | rfl
  · trivial
  · exact Nat.zero_le _
  · show 10 ^ 20 ≤ 10 ^ 30; decide
  · show ("a" : Str) ∈ WQ; simp [WQ]
  · exact ⟨by simp [WQ], by simp [PL]⟩
  · exact ⟨by simp [WQ], by simp [PL]⟩
theorem law5_on {n : Nat} {d : PyData} {w : Str} {M : Sto} {nx : Slo → Sto → Prop} {rt : Wv → Sto → Prop} {w0 w1 w2 w4 w5 w6 w7 w8 w9 w10 w11 w12 w14 w15 w16 w17 w18 : Option Wv} (hd : VG n d) (hn : n ≤ 15) (hz : szD d ≤ 13000) (hw : w ∈ WQ) (fl : Flat M)
    (q : ∀ x8 x15, nx [w0, w1, w2, some (.d d), w4, w5, w6, w7, x8, w9, w10, w11, w12, some (.d (.str w)), w14, x15, w16, w17, w18] M) :
    (B_law_5 [w0, w1, w2, some (.d d), w4, w5, w6, w7, w8, w9, w10, w11, w12, some (.d (.str w)), w14, w15, w16, w17, w18] M).on nx rt := by
  unfold B_law_5
  try simp only [onO_nx, onO_rt, onO_bad, onO_out, onO_ite, on_ite, onO_seq, onO_skip, onO_if, onO_ret, onO_set, onO_ex, onO_for, on_bindI, on_okI, on_badI, fCall, fCons, fNil, fPv, fC, fOp, fTest, fNotT, fAndT, fOrT, fAndV, fOrV, fNotV, fIf, fTup, fLst, fLstM, fSl, fPart, fNoP, fMethL, fNeg, fPut, fPar, fAsg, fYes, List.getElem?_cons_zero, List.getElem?_cons_succ, List.set_cons_zero, List.set_cons_succ, List.map_cons, List.map_nil, List.nil_append, List.cons_append, List.length_cons, List.length_nil, List.reduceReplicate, Nat.reduceSub, Nat.reduceAdd, Nat.zero_add, Bool.not_true, Bool.not_false, if_true, if_false, reduceIte, Bool.false_eq_true, reduceCtorEq, datas, Option.map_some, Option.bind_some, e_add, e_sub, e_lt, e_le, e_gt, e_ge, e_eqI, e_eqB, e_neI, e_neT, e_lenL, e_lenT, ixN43, ixN42, ixN41, ixN10, decide_true, decide_false, fiT, e_pow20, show (1 : Nat) ≤ sizeLine from by decide, show (2 : Nat) ≤ sizeLine from by decide, show (3 : Nat) ≤ sizeLine from by decide, show (6 : Nat) ≤ sizeLine from by decide]
  have es : ([Itm.one (.d (.tuple [.str "each"])), .one (.d (.tuple [.str "at", .int 0])), .one (.d (.tuple [.str "at", .int (10 ^ 20)])), .one (.d (.tuple [.str "field", .str "a"])), .one (.d (.tuple [.str "where", .str "a", .int 1])), .one (.d (.tuple [.str "where", .str "k", .str ""]))] : List Itm)
      = ((SS.map spD).map Wv.d).map Itm.one := rfl
  rw [es]
  refine for_on (fun i sd M1 => ∃ x8 x15, sd = [w0, w1, w2, some (.d d), w4, w5, w6, w7, x8, w9, w10, w11, w12, some (.d (.str w)), w14, x15, w16, w17, w18] ∧ M = M1) ?st ?fin ⟨_, _, rfl, rfl⟩
  case st =>
    rintro i it _ _ hi ⟨x8, x15, rfl, rfl⟩
    obtain ⟨e, he, rfl⟩ := its_at hi
    rw [List.getElem?_map] at he
    cases ek : SS[i]? with
    | none => rw [ek] at he; cases he
    | some s =>
      rw [ek] at he
      cases he
      exact ⟨trivial, _, rfl, law4_on hd hn hz hw (ss_ok s (List.mem_of_getElem? ek)) fl fun x => ⟨_, _, rfl, rfl⟩⟩
  case fin =>
    rintro _ _ ⟨x8, x15, rfl, rfl⟩
    exact ⟨trivial, q _ _⟩
theorem law7_on {n : Nat} {d : PyData} {s : Sp'} {M : Sto} {nx : Slo → Sto → Prop} {rt : Wv → Sto → Prop} {w0 w1 w2 w3 w4 w5 w6 w7 w8 w9 w10 w11 w12 w13 w16 w17 w18 : Option Wv} (hd : VG n d) (hn : n ≤ 15) (hz : szD d ≤ 13000) (hs : SpG s) (fl : Flat M)
    (q : ∀ x, nx [w0, w1, w2, w3, w4, w5, w6, w7, x, w9, w10, w11, w12, w13, some (.d d), some (.d (spD s)), w16, w17, w18] M) :
    (B_law_7 [w0, w1, w2, w3, w4, w5, w6, w7, w8, w9, w10, w11, w12, w13, some (.d d), some (.d (spD s)), w16, w17, w18] M).on nx rt := by
  unfold B_law_7
  have ha : ("a" : Str) ∈ WQ := by simp [WQ]
  obtain ⟨t, ⟨a, e1, e2⟩, b, c, e3, e4, e5⟩ := cmp_on (M := M) (ps := [.fld "a", s]) hd hn hz fl (by intro p hp; simp only [List.mem_cons, List.not_mem_nil, or_false] at hp; rcases hp with rfl | rfl <;> assumption) (by simp)
  have ep : PyData.tuple [.tuple [.str "field", .str "a"], spD s] = .tuple [spD (.fld "a"), spD s] := rfl
  simp only [List.map_cons, List.map_nil] at e1 e3
  try simp only [onO_nx, onO_rt, onO_bad, onO_out, onO_ite, on_ite, onO_seq, onO_skip, onO_if, onO_ret, onO_set, onO_ex, onO_for, on_bindI, on_okI, on_badI, fCall, fCons, fNil, fPv, fC, fOp, fTest, fNotT, fAndT, fOrT, fAndV, fOrV, fNotV, fIf, fTup, fLst, fLstM, fSl, fPart, fNoP, fMethL, fNeg, fPut, fPar, fAsg, fYes, List.getElem?_cons_zero, List.getElem?_cons_succ, List.set_cons_zero, List.set_cons_succ, List.map_cons, List.map_nil, List.nil_append, List.cons_append, List.length_cons, List.length_nil, List.reduceReplicate, Nat.reduceSub, Nat.reduceAdd, Nat.zero_add, Bool.not_true, Bool.not_false, if_true, if_false, reduceIte, Bool.false_eq_true, reduceCtorEq, datas, Option.map_some, Option.bind_some, e_add, e_sub, e_lt, e_le, e_gt, e_ge, e_eqI, e_eqB, e_neI, e_neT, e_lenL, e_lenT, ixN43, ixN42, ixN41, ixN10, decide_true, decide_false, show (2 : Nat) ≤ sizeLine from by decide]
  rw [ep]
  try simp only [onO_nx, onO_rt, onO_bad, onO_out, onO_ite, on_ite, onO_seq, onO_skip, onO_if, onO_ret, onO_set, onO_ex, onO_for, on_bindI, on_okI, on_badI, fCall, fCons, fNil, fPv, fC, fOp, fTest, fNotT, fAndT, fOrT, fAndV, fOrV, fNotV, fIf, fTup, fLst, fLstM, fSl, fPart, fNoP, fMethL, fNeg, fPut, fPar, fAsg, fYes, List.getElem?_cons_zero, List.getElem?_cons_succ, List.set_cons_zero, List.set_cons_succ, List.map_cons, List.map_nil, List.nil_append, List.cons_append, List.length_cons, List.length_nil, List.reduceReplicate, Nat.reduceSub, Nat.reduceAdd, Nat.zero_add, Bool.not_true, Bool.not_false, if_true, if_false, reduceIte, Bool.false_eq_true, reduceCtorEq, datas, Option.map_some, Option.bind_some, e_add, e_sub, e_lt, e_le, e_gt, e_ge, e_eqI, e_eqB, e_neI, e_neT, e_lenL, e_lenT, ixN43, ixN42, ixN41, ixN10, decide_true, decide_false, e1, e2, e3, e4, e5, BEq.rfl]
  exact q _
def costT : Nat := costD + 3000
theorem law6_on {m : Nat} {M : Sto} {nx : Slo → Sto → Prop} {rt : Wv → Sto → Prop} {w0 w2 w3 w4 w5 w6 w7 w8 w9 w10 w11 w12 w13 w14 w15 w16 w17 w18 : Option Wv} (fd : Feed M 0 m) (hm : m + costT + 2000 ≤ 999999000) (fl : Flat M)
    (q : ∀ x3 x4 x5 x6 x7 x8 x9 x10 x11 x12 x13 x14 x15 M', Feed M' 0 (m + costT) → Fr [0] M M' → Flat M' → nx [w0, some (.r 0), w2, x3, x4, x5, x6, x7, x8, x9, x10, x11, x12, x13, x14, x15, w16, w17, w18] M') :
    (B_law_6 [w0, some (.r 0), w2, w3, w4, w5, w6, w7, w8, w9, w10, w11, w12, w13, w14, w15, w16, w17, w18] M).on nx rt := by
  unfold costT at hm
  unfold B_law_6
  try simp only [onO_nx, onO_rt, onO_bad, onO_out, onO_ite, on_ite, onO_seq, onO_skip, onO_if, onO_ret, onO_set, onO_ex, onO_for, on_bindI, on_okI, on_badI, fCall, fCons, fNil, fPv, fC, fOp, fTest, fNotT, fAndT, fOrT, fAndV, fOrV, fNotV, fIf, fTup, fLst, fLstM, fSl, fPart, fNoP, fMethL, fNeg, fPut, fPar, fAsg, fYes, List.getElem?_cons_zero, List.getElem?_cons_succ, List.set_cons_zero, List.set_cons_succ, List.map_cons, List.map_nil, List.nil_append, List.cons_append, List.length_cons, List.length_nil, List.reduceReplicate, Nat.reduceSub, Nat.reduceAdd, Nat.zero_add, Bool.not_true, Bool.not_false, if_true, if_false, reduceIte, Bool.false_eq_true, reduceCtorEq, datas, Option.map_some, Option.bind_some, e_add, e_sub, e_lt, e_le, e_gt, e_ge, e_eqI, e_eqB, e_neI, e_neT, e_lenL, e_lenT, ixN43, ixN42, ixN41, ixN10, decide_true, decide_false]
  refine on_imp (doc_on fd fl (by omega)) ?_
  rintro _ M1 ⟨es, rfl, e5, fo, hk, hz, fd1, fr1, fl1⟩
  have hd : VD 4 (treeD es) := .tree e5 fo hk
  have i1 : ∀ M2 : Sto, oIxT (.d (treeD es)) (.d (.int 1)) M2 = .ok (.d (.tuple (es.map pairD))) M2 := fun M2 => ixTd at1
  try simp only [onO_nx, onO_rt, onO_bad, onO_out, onO_ite, on_ite, onO_seq, onO_skip, onO_if, onO_ret, onO_set, onO_ex, onO_for, on_bindI, on_okI, on_badI, fCall, fCons, fNil, fPv, fC, fOp, fTest, fNotT, fAndT, fOrT, fAndV, fOrV, fNotV, fIf, fTup, fLst, fLstM, fSl, fPart, fNoP, fMethL, fNeg, fPut, fPar, fAsg, fYes, List.getElem?_cons_zero, List.getElem?_cons_succ, List.set_cons_zero, List.set_cons_succ, List.map_cons, List.map_nil, List.nil_append, List.cons_append, List.length_cons, List.length_nil, List.reduceReplicate, Nat.reduceSub, Nat.reduceAdd, Nat.zero_add, Bool.not_true, Bool.not_false, if_true, if_false, reduceIte, Bool.false_eq_true, reduceCtorEq, datas, Option.map_some, Option.bind_some, e_add, e_sub, e_lt, e_le, e_gt, e_ge, e_eqI, e_eqB, e_neI, e_neT, e_lenL, e_lenT, ixN43, ixN42, ixN41, ixN10, decide_true, decide_false, i1, show (1 : Nat) ≤ sizeLine from by decide]
  unfold fLc fiT
  try simp only [onO_nx, onO_rt, onO_bad, onO_out, onO_ite, on_ite, onO_seq, onO_skip, onO_if, onO_ret, onO_set, onO_ex, onO_for, on_bindI, on_okI, on_badI, fCall, fCons, fNil, fPv, fC, fOp, fTest, fNotT, fAndT, fOrT, fAndV, fOrV, fNotV, fIf, fTup, fLst, fLstM, fSl, fPart, fNoP, fMethL, fNeg, fPut, fPar, fAsg, fYes, List.getElem?_cons_zero, List.getElem?_cons_succ, List.set_cons_zero, List.set_cons_succ, List.map_cons, List.map_nil, List.nil_append, List.cons_append, List.length_cons, List.length_nil, List.reduceReplicate, Nat.reduceSub, Nat.reduceAdd, Nat.zero_add, Bool.not_true, Bool.not_false, if_true, if_false, reduceIte, Bool.false_eq_true, reduceCtorEq, datas, Option.map_some, Option.bind_some, e_add, e_sub, e_lt, e_le, e_gt, e_ge, e_eqI, e_eqB, e_neI, e_neT, e_lenL, e_lenT, ixN43, ixN42, ixN41, ixN10, decide_true, decide_false, i1, wipeD]
  refine lc_filter (g := pairD) (r := fun e => e.2) (p := fun _ => true) (by omega) (fun e he => rfl) (fun e he => ?_) ?_
  · have j1 : oIxT (.d (pairD e)) (.d (.int 1)) M1 = .ok (.d e.2) M1 := ixTd at1
    refine get_okA ?_
    try simp only [onO_nx, onO_rt, onO_bad, onO_out, onO_ite, on_ite, onO_seq, onO_skip, onO_if, onO_ret, onO_set, onO_ex, onO_for, on_bindI, on_okI, on_badI, fCall, fCons, fNil, fPv, fC, fOp, fTest, fNotT, fAndT, fOrT, fAndV, fOrV, fNotV, fIf, fTup, fLst, fLstM, fSl, fPart, fNoP, fMethL, fNeg, fPut, fPar, fAsg, fYes, List.getElem?_cons_zero, List.getElem?_cons_succ, List.set_cons_zero, List.set_cons_succ, List.map_cons, List.map_nil, List.nil_append, List.cons_append, List.length_cons, List.length_nil, List.reduceReplicate, Nat.reduceSub, Nat.reduceAdd, Nat.zero_add, Bool.not_true, Bool.not_false, if_true, if_false, reduceIte, Bool.false_eq_true, reduceCtorEq, datas, Option.map_some, Option.bind_some, e_add, e_sub, e_lt, e_le, e_gt, e_ge, e_eqI, e_eqB, e_neI, e_neT, e_lenL, e_lenT, ixN43, ixN42, ixN41, ixN10, decide_true, decide_false, j1]
    exact ⟨trivial, trivial⟩
  rw [List.filter_eq_self.mpr fun _ _ => rfl]
  try simp only [onO_nx, onO_rt, onO_bad, onO_out, onO_ite, on_ite, onO_seq, onO_skip, onO_if, onO_ret, onO_set, onO_ex, onO_for, on_bindI, on_okI, on_badI, fCall, fCons, fNil, fPv, fC, fOp, fTest, fNotT, fAndT, fOrT, fAndV, fOrV, fNotV, fIf, fTup, fLst, fLstM, fSl, fPart, fNoP, fMethL, fNeg, fPut, fPar, fAsg, fYes, List.getElem?_cons_zero, List.getElem?_cons_succ, List.set_cons_zero, List.set_cons_succ, List.map_cons, List.map_nil, List.nil_append, List.cons_append, List.length_cons, List.length_nil, List.reduceReplicate, Nat.reduceSub, Nat.reduceAdd, Nat.zero_add, Bool.not_true, Bool.not_false, if_true, if_false, reduceIte, Bool.false_eq_true, reduceCtorEq, datas, Option.map_some, Option.bind_some, e_add, e_sub, e_lt, e_le, e_gt, e_ge, e_eqI, e_eqB, e_neI, e_neT, e_lenL, e_lenT, ixN43, ixN42, ixN41, ixN10, decide_true, decide_false]
  rw [e_catL (by simp; omega)]
  try simp only [onO_nx, onO_rt, onO_bad, onO_out, onO_ite, on_ite, onO_seq, onO_skip, onO_if, onO_ret, onO_set, onO_ex, onO_for, on_bindI, on_okI, on_badI, fCall, fCons, fNil, fPv, fC, fOp, fTest, fNotT, fAndT, fOrT, fAndV, fOrV, fNotV, fIf, fTup, fLst, fLstM, fSl, fPart, fNoP, fMethL, fNeg, fPut, fPar, fAsg, fYes, List.getElem?_cons_zero, List.getElem?_cons_succ, List.set_cons_zero, List.set_cons_succ, List.map_cons, List.map_nil, List.nil_append, List.cons_append, List.length_cons, List.length_nil, List.reduceReplicate, Nat.reduceSub, Nat.reduceAdd, Nat.zero_add, Bool.not_true, Bool.not_false, if_true, if_false, reduceIte, Bool.false_eq_true, reduceCtorEq, datas, Option.map_some, Option.bind_some, e_add, e_sub, e_lt, e_le, e_gt, e_ge, e_eqI, e_eqB, e_neI, e_neT, e_lenL, e_lenT, ixN43, ixN42, ixN41, ixN10, decide_true, decide_false, i1]
  refine on_imp (plain_on fd1 fl1 (by omega)) ?_
  rintro _ M2 ⟨p, rfl, hp, fd2, fr2, fl2⟩
  try simp only [onO_nx, onO_rt, onO_bad, onO_out, onO_ite, on_ite, onO_seq, onO_skip, onO_if, onO_ret, onO_set, onO_ex, onO_for, on_bindI, on_okI, on_badI, fCall, fCons, fNil, fPv, fC, fOp, fTest, fNotT, fAndT, fOrT, fAndV, fOrV, fNotV, fIf, fTup, fLst, fLstM, fSl, fPart, fNoP, fMethL, fNeg, fPut, fPar, fAsg, fYes, List.getElem?_cons_zero, List.getElem?_cons_succ, List.set_cons_zero, List.set_cons_succ, List.map_cons, List.map_nil, List.nil_append, List.cons_append, List.length_cons, List.length_nil, List.reduceReplicate, Nat.reduceSub, Nat.reduceAdd, Nat.zero_add, Bool.not_true, Bool.not_false, if_true, if_false, reduceIte, Bool.false_eq_true, reduceCtorEq, datas, Option.map_some, Option.bind_some, e_add, e_sub, e_lt, e_le, e_gt, e_ge, e_eqI, e_eqB, e_neI, e_neT, e_lenL, e_lenT, ixN43, ixN42, ixN41, ixN10, decide_true, decide_false, show (1 : Nat) ≤ sizeLine from by decide]
  rw [e_catL (by simp; omega)]
  try simp only [onO_nx, onO_rt, onO_bad, onO_out, onO_ite, on_ite, onO_seq, onO_skip, onO_if, onO_ret, onO_set, onO_ex, onO_for, on_bindI, on_okI, on_badI, fCall, fCons, fNil, fPv, fC, fOp, fTest, fNotT, fAndT, fOrT, fAndV, fOrV, fNotV, fIf, fTup, fLst, fLstM, fSl, fPart, fNoP, fMethL, fNeg, fPut, fPar, fAsg, fYes, List.getElem?_cons_zero, List.getElem?_cons_succ, List.set_cons_zero, List.set_cons_succ, List.map_cons, List.map_nil, List.nil_append, List.cons_append, List.length_cons, List.length_nil, List.reduceReplicate, Nat.reduceSub, Nat.reduceAdd, Nat.zero_add, Bool.not_true, Bool.not_false, if_true, if_false, reduceIte, Bool.false_eq_true, reduceCtorEq, datas, Option.map_some, Option.bind_some, e_add, e_sub, e_lt, e_le, e_gt, e_ge, e_eqI, e_eqB, e_neI, e_neT, e_lenL, e_lenT, ixN43, ixN42, ixN41, ixN10, decide_true, decide_false]
  generalize hE : treeD es :: (es.map (fun e => e.2) ++ [p]) = E
  have kE : (∀ v ∈ E, VD 4 v ∧ szD v ≤ 13000) ∧ E.length ≤ 7 := by
    rw [← hE]
    refine ⟨fun v hv => ?_, by simp; omega⟩
    rcases List.mem_cons.mp hv with z | z
    · rw [z]
      exact ⟨hd, hz⟩
    · rcases List.mem_append.mp z with y | y
      · obtain ⟨e, he, rfl⟩ := List.mem_map.mp y
        refine ⟨(hk e he).up, ?_⟩
        have a1 := szDs_mem (List.mem_map.mpr ⟨e, he, rfl⟩ : e.2 ∈ es.map (·.2))
        rw [sz_tree] at hz
        omega
      · rw [List.mem_singleton.mp y]
        exact ⟨.plain hp, by rw [sz_PL p hp]; decide⟩
  try simp only [onO_nx, onO_rt, onO_bad, onO_out, onO_ite, on_ite, onO_seq, onO_skip, onO_if, onO_ret, onO_set, onO_ex, onO_for, on_bindI, on_okI, on_badI, fCall, fCons, fNil, fPv, fC, fOp, fTest, fNotT, fAndT, fOrT, fAndV, fOrV, fNotV, fIf, fTup, fLst, fLstM, fSl, fPart, fNoP, fMethL, fNeg, fPut, fPar, fAsg, fYes, List.getElem?_cons_zero, List.getElem?_cons_succ, List.set_cons_zero, List.set_cons_succ, List.map_cons, List.map_nil, List.nil_append, List.cons_append, List.length_cons, List.length_nil, List.reduceReplicate, Nat.reduceSub, Nat.reduceAdd, Nat.zero_add, Bool.not_true, Bool.not_false, if_true, if_false, reduceIte, Bool.false_eq_true, reduceCtorEq, datas, Option.map_some, Option.bind_some, e_add, e_sub, e_lt, e_le, e_gt, e_ge, e_eqI, e_eqB, e_neI, e_neT, e_lenL, e_lenT, ixN43, ixN42, ixN41, ixN10, decide_true, decide_false]
  unfold fiL
  try simp only [onO_nx, onO_rt, onO_bad, onO_out, onO_ite, on_ite, onO_seq, onO_skip, onO_if, onO_ret, onO_set, onO_ex, onO_for, on_bindI, on_okI, on_badI, fCall, fCons, fNil, fPv, fC, fOp, fTest, fNotT, fAndT, fOrT, fAndV, fOrV, fNotV, fIf, fTup, fLst, fLstM, fSl, fPart, fNoP, fMethL, fNeg, fPut, fPar, fAsg, fYes, List.getElem?_cons_zero, List.getElem?_cons_succ, List.set_cons_zero, List.set_cons_succ, List.map_cons, List.map_nil, List.nil_append, List.cons_append, List.length_cons, List.length_nil, List.reduceReplicate, Nat.reduceSub, Nat.reduceAdd, Nat.zero_add, Bool.not_true, Bool.not_false, if_true, if_false, reduceIte, Bool.false_eq_true, reduceCtorEq, datas, Option.map_some, Option.bind_some, e_add, e_sub, e_lt, e_le, e_gt, e_ge, e_eqI, e_eqB, e_neI, e_neT, e_lenL, e_lenT, ixN43, ixN42, ixN41, ixN10, decide_true, decide_false]
  refine for_on (fun i sd M3 => ∃ x5 x6 x7 x8 x9 x10 x11 x12, sd = [w0, some (.r 0), w2, some (.d (treeD es)), some (.d (.list E)), x5, x6, x7, x8, x9, x10, x11, x12, w13, w14, w15, w16, w17, w18] ∧ Feed M3 0 (m + costD + 1 + 300 * i) ∧ Fr [0] M M3 ∧ Flat M3) ?st ?fin
    ⟨_, _, _, _, _, _, _, _, rfl, by simpa using fd2, fr1.trans fr2, fl2⟩
  case st =>
    rintro i it _ M3 hi ⟨x5, x6, x7, x8, x9, x10, x11, x12, rfl, fd3, fr3, fl3⟩
    obtain ⟨v, he, rfl⟩ := its_at hi
    have hv := kE.1 v (List.mem_of_getElem? he)
    have hlt : i < 7 := by have := (List.getElem?_eq_some_iff.mp he).1; omega
    exact ⟨trivial, _, rfl, law3_on hv.1 hv.2 fd3 (by omega) fl3 fun y6 y7 y8 y9 y10 y11 y12 M' fd' fr' fl' => ⟨_, _, _, _, _, _, _, _, rfl, fd'.up (by omega), fr3.trans fr', fl'⟩⟩
  case fin =>
    rintro _ M3 ⟨x5, x6, x7, x8, x9, x10, x11, x12, rfl, fd3, fr3, fl3⟩
    rw [List.length_map, List.length_map] at fd3
    refine ⟨trivial, ?_⟩
    try simp only [onO_nx, onO_rt, onO_bad, onO_out, onO_ite, on_ite, onO_seq, onO_skip, onO_if, onO_ret, onO_set, onO_ex, onO_for, on_bindI, on_okI, on_badI, fCall, fCons, fNil, fPv, fC, fOp, fTest, fNotT, fAndT, fOrT, fAndV, fOrV, fNotV, fIf, fTup, fLst, fLstM, fSl, fPart, fNoP, fMethL, fNeg, fPut, fPar, fAsg, fYes, List.getElem?_cons_zero, List.getElem?_cons_succ, List.set_cons_zero, List.set_cons_succ, List.map_cons, List.map_nil, List.nil_append, List.cons_append, List.length_cons, List.length_nil, List.reduceReplicate, Nat.reduceSub, Nat.reduceAdd, Nat.zero_add, Bool.not_true, Bool.not_false, if_true, if_false, reduceIte, Bool.false_eq_true, reduceCtorEq, datas, Option.map_some, Option.bind_some, e_add, e_sub, e_lt, e_le, e_gt, e_ge, e_eqI, e_eqB, e_neI, e_neT, e_lenL, e_lenT, ixN43, ixN42, ixN41, ixN10, decide_true, decide_false, i1]
    refine for_on (fun i sd M4 => ∃ x8 x13 x14 x15, sd = [w0, some (.r 0), w2, some (.d (treeD es)), some (.d (.list E)), x5, x6, x7, x8, x9, x10, x11, x12, x13, x14, x15, w16, w17, w18] ∧ M3 = M4) ?st2 ?fin2 ⟨_, _, _, _, rfl, rfl⟩
    case st2 =>
      rintro i it _ _ hi ⟨y8, y13, y14, y15, rfl, rfl⟩
      obtain ⟨e, he, rfl⟩ := its_at hi
      rw [List.getElem?_map] at he
      cases ek : es[i]? with
      | none => rw [ek] at he; cases he
      | some e =>
        rw [ek] at he
        cases he
        exact ⟨trivial, _, rfl, law5_on hd.vg (by decide) hz (wl_wq _ (fo.pool e (List.mem_of_getElem? ek))) fl3 fun x8 x15 => ⟨_, _, _, _, rfl, rfl⟩⟩
    case fin2 =>
      rintro _ _ ⟨y8, y13, y14, y15, rfl, rfl⟩
      exact ⟨trivial, q _ _ _ _ _ _ _ _ _ _ _ _ _ M3 (fd3.up (by unfold costT; have := kE.2; omega)) fr3 fl3⟩
def wideD : PyData := treeD [("a", rowD ((List.range 25).map fun i => PyData.int (i : Nat)))]
def longD : PyData := treeD [("a", rowD (List.replicate 9 (treeD [("k", .int 1)])))]
theorem wide_vg : VG 2 wideD := .tree (by decide) (by intro e he; rw [List.mem_singleton.mp he]; simp [WL]) (by simp) fun e he => by
  rw [List.mem_singleton.mp he]
  exact .row (by simp) fun d hd => .plain (List.mem_append_right _ hd)
theorem long_vg : VG 3 longD := .tree (by decide) (by intro e he; rw [List.mem_singleton.mp he]; simp [WL]) (by simp) fun e he => by
  rw [List.mem_singleton.mp he]
  exact .row (by simp) fun d hd => by
    rw [List.eq_of_mem_replicate hd]
    exact .tree (by decide) (by intro e he; rw [List.mem_singleton.mp he]; simp [WL]) (by simp) fun e he => by
      rw [List.mem_singleton.mp he]
      exact .plain (List.mem_append_left _ (by simp [PL]))
theorem wide_sz : szD wideD ≤ 13000 := by decide +kernel
theorem long_sz : szD longD ≤ 13000 := by decide +kernel
def S4 : List Sp' := [.each, .num 24, .num 8, .whr "k" (.int 1)]
theorem s4_ok : ∀ s ∈ S4, SpG s := by
  intro s hs
  simp only [S4, List.mem_cons, List.not_mem_nil, or_false] at hs
  rcases hs with rfl | rfl | rfl | rfl
  · trivial
  · show 24 ≤ 10 ^ 30; decide
  · show 8 ≤ 10 ^ 30; decide
  · exact ⟨by simp [WQ], by simp [PL]⟩
theorem feedD_on (ns : List Int) : (F_lfeed [.d (.list (ns.map PyData.int))] []).on fun w M' => ∃ o, w = .r ([] : Sto).length ∧ M' = [] ++ [o] ∧ Flat M' ∧ Feed M' ([] : Sto).length 0 := by
  refine fn_on rfl ?_
  unfold B_lfeed
  try simp only [onO_nx, onO_rt, onO_bad, onO_out, onO_ite, on_ite, onO_seq, onO_skip, onO_if, onO_ret, onO_set, onO_ex, onO_for, on_bindI, on_okI, on_badI, fCall, fCons, fNil, fPv, fC, fOp, fTest, fNotT, fAndT, fOrT, fAndV, fOrV, fNotV, fIf, fTup, fLst, fLstM, fSl, fPart, fNoP, fMethL, fNeg, fPut, fPar, fAsg, fYes, List.getElem?_cons_zero, List.getElem?_cons_succ, List.set_cons_zero, List.set_cons_succ, List.map_cons, List.map_nil, List.nil_append, List.cons_append, List.length_cons, List.length_nil, List.reduceReplicate, Nat.reduceSub, Nat.reduceAdd, Nat.zero_add, Bool.not_true, Bool.not_false, if_true, if_false, reduceIte, Bool.false_eq_true, reduceCtorEq, datas, Option.map_some, Option.bind_some, e_add, e_sub, e_lt, e_le, e_gt, e_ge, e_eqI, e_eqB, e_neI, e_neT, e_lenL, e_lenT, ixN43, ixN42, ixN41, ixN10, decide_true, decide_false]
  simp only [oSlL, lsv, datas_d, Option.bind_some, on_okI, datas, Option.map_some]
  simp only [show (4 : Nat) ≤ sizeLine from by decide, if_true, on_okI]
  rw [cut_map]
  refine ⟨_, rfl, rfl, ?_, cutL ns none (some 63), 0, 0, 0, rfl, ?_, by omega, by omega, by omega, by omega⟩
  · intro o ho
    rcases List.mem_append.mp ho with z | z
    · cases z
    · rw [List.mem_singleton.mp z]
      exact fl4
  · unfold cutL HT.sIx
    simp
    omega
theorem law_on {w0 : Wv} (hf : (F_lfeed [w0] []).on fun w M' => ∃ o, w = .r ([] : Sto).length ∧ M' = [] ++ [o] ∧ Flat M' ∧ Feed M' ([] : Sto).length 0) : (F_law [w0] []).on fun w _ => w = .d (.bool true) := by
  unfold F_law
  refine drop_on (fn_on rfl ?_)
  unfold B_law
  try simp only [onO_nx, onO_rt, onO_bad, onO_out, onO_ite, on_ite, onO_seq, onO_skip, onO_if, onO_ret, onO_set, onO_ex, onO_for, on_bindI, on_okI, on_badI, fCall, fCons, fNil, fPv, fC, fOp, fTest, fNotT, fAndT, fOrT, fAndV, fOrV, fNotV, fIf, fTup, fLst, fLstM, fSl, fPart, fNoP, fMethL, fNeg, fPut, fPar, fAsg, fYes, List.getElem?_cons_zero, List.getElem?_cons_succ, List.set_cons_zero, List.set_cons_succ, List.map_cons, List.map_nil, List.nil_append, List.cons_append, List.length_cons, List.length_nil, List.reduceReplicate, Nat.reduceSub, Nat.reduceAdd, Nat.zero_add, Bool.not_true, Bool.not_false, if_true, if_false, reduceIte, Bool.false_eq_true, reduceCtorEq, datas, Option.map_some, Option.bind_some, e_add, e_sub, e_lt, e_le, e_gt, e_ge, e_eqI, e_eqB, e_neI, e_neT, e_lenL, e_lenT, ixN43, ixN42, ixN41, ixN10, decide_true, decide_false]
  refine on_imp hf ?_
  rintro _ M1 ⟨o, rfl, rfl, fl1, fd1⟩
  unfold fiR1
  try simp only [onO_nx, onO_rt, onO_bad, onO_out, onO_ite, on_ite, onO_seq, onO_skip, onO_if, onO_ret, onO_set, onO_ex, onO_for, on_bindI, on_okI, on_badI, fCall, fCons, fNil, fPv, fC, fOp, fTest, fNotT, fAndT, fOrT, fAndV, fOrV, fNotV, fIf, fTup, fLst, fLstM, fSl, fPart, fNoP, fMethL, fNeg, fPut, fPar, fAsg, fYes, List.getElem?_cons_zero, List.getElem?_cons_succ, List.set_cons_zero, List.set_cons_succ, List.map_cons, List.map_nil, List.nil_append, List.cons_append, List.length_cons, List.length_nil, List.reduceReplicate, Nat.reduceSub, Nat.reduceAdd, Nat.zero_add, Bool.not_true, Bool.not_false, if_true, if_false, reduceIte, Bool.false_eq_true, reduceCtorEq, datas, Option.map_some, Option.bind_some, e_add, e_sub, e_lt, e_le, e_gt, e_ge, e_eqI, e_eqB, e_neI, e_neT, e_lenL, e_lenT, ixN43, ixN42, ixN41, ixN10, decide_true, decide_false]
  rw [if_pos (by decide)]
  try simp only [onO_nx, onO_rt, onO_bad, onO_out, onO_ite, on_ite, onO_seq, onO_skip, onO_if, onO_ret, onO_set, onO_ex, onO_for, on_bindI, on_okI, on_badI, fCall, fCons, fNil, fPv, fC, fOp, fTest, fNotT, fAndT, fOrT, fAndV, fOrV, fNotV, fIf, fTup, fLst, fLstM, fSl, fPart, fNoP, fMethL, fNeg, fPut, fPar, fAsg, fYes, List.getElem?_cons_zero, List.getElem?_cons_succ, List.set_cons_zero, List.set_cons_succ, List.map_cons, List.map_nil, List.nil_append, List.cons_append, List.length_cons, List.length_nil, List.reduceReplicate, Nat.reduceSub, Nat.reduceAdd, Nat.zero_add, Bool.not_true, Bool.not_false, if_true, if_false, reduceIte, Bool.false_eq_true, reduceCtorEq, datas, Option.map_some, Option.bind_some, e_add, e_sub, e_lt, e_le, e_gt, e_ge, e_eqI, e_eqB, e_neI, e_neT, e_lenL, e_lenT, ixN43, ixN42, ixN41, ixN10, decide_true, decide_false]
  refine for_on (fun i sd M3 => ∃ x2 x3 x4 x5 x6 x7 x8 x9 x10 x11 x12 x13 x14 x15, sd = [some w0, some (.r 0), x2, x3, x4, x5, x6, x7, x8, x9, x10, x11, x12, x13, x14, x15, none, none, none] ∧ Feed M3 0 (costT * i) ∧ Flat M3) ?st ?fin
    ⟨_, _, _, _, _, _, _, _, _, _, _, _, _, _, rfl, fd1, fl1⟩
  case st =>
    rintro i it _ M3 hi ⟨x2, x3, x4, x5, x6, x7, x8, x9, x10, x11, x12, x13, x14, x15, rfl, fd3, fl3⟩
    obtain ⟨hlt, rfl⟩ := rng_at hi
    have hlt : i < 3 := hlt
    have hc : costT * i ≤ costT * 2 := Nat.mul_le_mul_left _ (by omega)
    have hc2 : costT = 12370 := rfl
    exact ⟨trivial, _, rfl, law6_on fd3 (by omega) fl3 fun x3 x4 x5 x6 x7 x8 x9 x10 x11 x12 x13 x14 x15 M' fd' fr' fl' => ⟨_, _, _, _, _, _, _, _, _, _, _, _, _, _, rfl, fd'.up (by rw [Nat.mul_add]; omega), fl'⟩⟩
  case fin =>
    rintro _ M3 ⟨x2, x3, x4, x5, x6, x7, x8, x9, x10, x11, x12, x13, x14, x15, rfl, fd3, fl3⟩
    refine ⟨trivial, ?_⟩
    have e9 : oMulT (.d (.tuple [.tuple [.str "tree", .tuple [.tuple [.str "k", .int 1]]]])) (.d (.int 9)) M3 = .ok (.d (.tuple (List.replicate 9 (treeD [("k", .int 1)])))) M3 := by
      simp only [oMulT]
      rw [if_pos (by decide), if_pos (by decide)]
      rfl
    try simp only [onO_nx, onO_rt, onO_bad, onO_out, onO_ite, on_ite, onO_seq, onO_skip, onO_if, onO_ret, onO_set, onO_ex, onO_for, on_bindI, on_okI, on_badI, fCall, fCons, fNil, fPv, fC, fOp, fTest, fNotT, fAndT, fOrT, fAndV, fOrV, fNotV, fIf, fTup, fLst, fLstM, fSl, fPart, fNoP, fMethL, fNeg, fPut, fPar, fAsg, fYes, List.getElem?_cons_zero, List.getElem?_cons_succ, List.set_cons_zero, List.set_cons_succ, List.map_cons, List.map_nil, List.nil_append, List.cons_append, List.length_cons, List.length_nil, List.reduceReplicate, Nat.reduceSub, Nat.reduceAdd, Nat.zero_add, Bool.not_true, Bool.not_false, if_true, if_false, reduceIte, Bool.false_eq_true, reduceCtorEq, datas, Option.map_some, Option.bind_some, e_add, e_sub, e_lt, e_le, e_gt, e_ge, e_eqI, e_eqB, e_neI, e_neT, e_lenL, e_lenT, ixN43, ixN42, ixN41, ixN10, decide_true, decide_false, fTupRg, e9, show (1 : Nat) ≤ sizeLine from by decide, show (2 : Nat) ≤ sizeLine from by decide, show (3 : Nat) ≤ sizeLine from by decide, show (4 : Nat) ≤ sizeLine from by decide]
    rw [if_pos (by decide)]
    try simp only [onO_nx, onO_rt, onO_bad, onO_out, onO_ite, on_ite, onO_seq, onO_skip, onO_if, onO_ret, onO_set, onO_ex, onO_for, on_bindI, on_okI, on_badI, fCall, fCons, fNil, fPv, fC, fOp, fTest, fNotT, fAndT, fOrT, fAndV, fOrV, fNotV, fIf, fTup, fLst, fLstM, fSl, fPart, fNoP, fMethL, fNeg, fPut, fPar, fAsg, fYes, List.getElem?_cons_zero, List.getElem?_cons_succ, List.set_cons_zero, List.set_cons_succ, List.map_cons, List.map_nil, List.nil_append, List.cons_append, List.length_cons, List.length_nil, List.reduceReplicate, Nat.reduceSub, Nat.reduceAdd, Nat.zero_add, Bool.not_true, Bool.not_false, if_true, if_false, reduceIte, Bool.false_eq_true, reduceCtorEq, datas, Option.map_some, Option.bind_some, e_add, e_sub, e_lt, e_le, e_gt, e_ge, e_eqI, e_eqB, e_neI, e_neT, e_lenL, e_lenT, ixN43, ixN42, ixN41, ixN10, decide_true, decide_false, fTupRg, e9, fiT, show (1 : Nat) ≤ sizeLine from by decide, show (2 : Nat) ≤ sizeLine from by decide, show (3 : Nat) ≤ sizeLine from by decide, show (4 : Nat) ≤ sizeLine from by decide]
    show (forL none (.nm 15) B_law_8 (((S4.map spD).map Wv.d).map Itm.one) [some w0, some (.r 0), x2, x3, x4, x5, x6, x7, x8, x9, x10, x11, x12, x13, x14, x15, some (.d wideD), some (.d longD), none] M3).on (fun sd1 M1 => DropP [] (fun w x => w = Wv.d (PyData.bool true)) (Wv.d (PyData.bool true)) M1) (DropP [] fun w x => w = Wv.d (PyData.bool true))
    refine for_on (fun i sd M4 => ∃ y8 y14 y15, sd = [some w0, some (.r 0), x2, x3, x4, x5, x6, x7, y8, x9, x10, x11, x12, x13, y14, y15, some (.d wideD), some (.d longD), none] ∧ M3 = M4) ?st2 ?fin2 ⟨_, _, _, rfl, rfl⟩
    case st2 =>
      rintro i it _ _ hi ⟨y8, y14, y15, rfl, rfl⟩
      obtain ⟨e, he, rfl⟩ := its_at hi
      rw [List.getElem?_map] at he
      cases ek : S4[i]? with
      | none => rw [ek] at he; cases he
      | some s =>
        rw [ek] at he
        cases he
        have sg := s4_ok s (List.mem_of_getElem? ek)
        refine ⟨trivial, _, rfl, ?_⟩
        unfold B_law_8
        try simp only [onO_nx, onO_rt, onO_bad, onO_out, onO_ite, on_ite, onO_seq, onO_skip, onO_if, onO_ret, onO_set, onO_ex, onO_for, on_bindI, on_okI, on_badI, fCall, fCons, fNil, fPv, fC, fOp, fTest, fNotT, fAndT, fOrT, fAndV, fOrV, fNotV, fIf, fTup, fLst, fLstM, fSl, fPart, fNoP, fMethL, fNeg, fPut, fPar, fAsg, fYes, List.getElem?_cons_zero, List.getElem?_cons_succ, List.set_cons_zero, List.set_cons_succ, List.map_cons, List.map_nil, List.nil_append, List.cons_append, List.length_cons, List.length_nil, List.reduceReplicate, Nat.reduceSub, Nat.reduceAdd, Nat.zero_add, Bool.not_true, Bool.not_false, if_true, if_false, reduceIte, Bool.false_eq_true, reduceCtorEq, datas, Option.map_some, Option.bind_some, e_add, e_sub, e_lt, e_le, e_gt, e_ge, e_eqI, e_eqB, e_neI, e_neT, e_lenL, e_lenT, ixN43, ixN42, ixN41, ixN10, decide_true, decide_false, fiT, show (2 : Nat) ≤ sizeLine from by decide]
        refine for_on (fun j sd M4 => ∃ y8 y14, sd = [some w0, some (.r 0), x2, x3, x4, x5, x6, x7, y8, x9, x10, x11, x12, x13, y14, some (.d (spD s)), some (.d wideD), some (.d longD), none] ∧ M3 = M4) ?st3 ?fin3 ⟨_, _, rfl, rfl⟩
        case st3 =>
          rintro j it _ _ hj ⟨y8, y14, rfl, rfl⟩
          match j, hj with
          | 0, hj =>
            cases hj
            exact ⟨trivial, _, rfl, law7_on wide_vg (by decide) wide_sz sg fl3 fun x => ⟨_, _, rfl, rfl⟩⟩
          | 1, hj =>
            cases hj
            exact ⟨trivial, _, rfl, law7_on long_vg (by decide) long_sz sg fl3 fun x => ⟨_, _, rfl, rfl⟩⟩
          | j + 2, hj => simp at hj
        case fin3 =>
          rintro _ _ ⟨y8, y14, rfl, rfl⟩
          exact ⟨trivial, _, _, _, rfl, rfl⟩
    case fin2 =>
      rintro _ _ ⟨y8, y14, y15, rfl, rfl⟩
      exact ⟨trivial, fin_more (more := M3) (by simp) fl3 rfl⟩
end Fu

set_option Elab.async false
set_option linter.all false
set_option maxRecDepth 100000
set_option maxHeartbeats 4000000
/-! The end: the law's def called from outside, where nothing is guarded. -/
namespace Dat
open PySem PySem.Spec PyProof.Rows L2 LamX

abbrev tab0 : Obj := { cls := .none, data := .fields #[] }
abbrev scr0 (vs : List Value) : Obj := { cls := .type "list", data := .seq vs.toArray }
/-- at the start: the empty tables, and the script's list unless it is of the written part -/
def hp0 (K : PySem.W.Frag) (ts : List Addr) (a : Addr) (vs : List Value) (ns : List Int) : Hp := fun b =>
  if b ∈ ts then some (.tbl #[]) else if b = a ∧ K.lookup a = none then some (.frz (scr0 vs) (.lst (ns.map V.int))) else none
section
variable {K : PySem.W.Frag} {ts : List Addr} {a b : Addr} {vs : List Value} {ns : List Int}
theorem hp0_tab (h : b ∈ ts) : hp0 K ts a vs ns b = some (.tbl #[]) := if_pos h
theorem hp0_cases (b : Addr) : (b ∈ ts ∧ hp0 K ts a vs ns b = some (.tbl #[])) ∨ (b ∉ ts ∧ b = a ∧ K.lookup a = none ∧ hp0 K ts a vs ns b = some (.frz (scr0 vs) (.lst (ns.map V.int)))) ∨ hp0 K ts a vs ns b = none := by
  by_cases h1 : b ∈ ts
  · exact .inl ⟨h1, if_pos h1⟩
  · by_cases h2 : b = a ∧ K.lookup a = none
    · exact .inr (.inl ⟨h1, h2.1, h2.2, (if_neg h1).trans (if_pos h2)⟩)
    · exact .inr (.inr ((if_neg h1).trans (if_neg h2)))
/-- what is neither a list of the script's form nor an empty table isn't tracked -/
theorem hp0_none {h : Heap} {o : Obj} (ht : ∀ p ∈ ts, h.get? p = some tab0) (ha : h.get? a = some (scr0 vs)) (e : h.get? b = some o) (n1 : o ≠ tab0) (n2 : o ≠ scr0 vs) : hp0 K ts a vs ns b = none := by
  rcases hp0_cases (K := K) (ts := ts) (a := a) (vs := vs) (ns := ns) b with ⟨q, _⟩ | ⟨_, rfl, _⟩ | q
  · exact absurd (Option.some.inj (e.symm.trans (ht b q))) n1
  · exact absurd (Option.some.inj (e.symm.trans ha)) n2
  · exact q
end
theorem ne_tab {o : Obj} (h : o.data ≠ .fields #[]) : o ≠ tab0 := fun z => h (by rw [z])
theorem ne_scr {o : Obj} {vs : List Value} (h : ∀ xs n, o.data ≠ .seq xs n) : o ≠ scr0 vs := fun z => h _ _ (by rw [z])

section
variable {P : Program} {w : World} {K : PySem.W.Frag} {mg mb : Str → Option Value} {k : Nat} {fa a : Addr} {cs : List (Addr × Addr)} {fd : FuncData} {x : Str} {sp : Sp} {s : Shared} {vs : List Value} {ns : List Int}
theorem callG (inK : K.In s.heap) (nsG : s.heap.Ns mainGlobals mg) (nsB : s.heap.Ns builtinsNs mb) (boot : ∀ x : Str, x ≠ "__name__" → mb x = bootBuiltins x) (lim : s.heap.NoLimit) (gens : s.gens = #[])
    (tabs : ∀ p ∈ cs, s.heap.get? p.2 = some tab0) (out : ∀ p ∈ cs, K.lookup p.2 = none) (codes : ∀ p ∈ cs, PySem.W.CodeHd s.heap p.1 p.2)
    (bm : ∃ (m : Addr) (o : Obj), mg "__builtins__" = some (.ref m) ∧ m ≠ builtinsNs ∧ s.heap.get? m = some o ∧ o.cls = .type "module" ∧ o.dict = some builtinsNs ∧ o.data = .plain)
    (scr : s.heap.get? a = some (scr0 vs)) (hints : IntsAre vs ns) (few : ns.length ≤ sizeLine) (room : Room k callerA)
    (F : ∀ base : Heap, K.In base → base.Ns mainGlobals mg → (∀ p ∈ cs, TabB base mg p.1 p.2) → FnG P w K mg base k fa fd [x] sp) (binds : ∀ (s : Shared) (u : Value), BindsTo s fd ⟨[u], []⟩ [(x, u)])
    (keeps : ∀ H : Hp, (∀ p ∈ cs, H p.2 = some (.tbl #[])) → SqL K H a (ns.map V.int) → sp [.ref a] H (fun v _ => v = .bl true) fun _ _ _ => False) :
    codeAny (model P w) callerA (.call (.ref fa) ⟨[.ref a], []⟩) (fun r s' => r = .ok (.ret (.bool true)) ∧ OldK s.heap s'.heap ∧ s'.os = s.os ∧ AllBare s'.gens) s := by
  obtain ⟨ts, ets⟩ : ∃ ts, ts = cs.map (·.2) := ⟨_, rfl⟩
  have inTs : ∀ p ∈ cs, p.2 ∈ ts := fun p hp => by rw [ets]; exact List.mem_map.mpr ⟨p, hp, rfl⟩
  have ofTs : ∀ b ∈ ts, ∃ p ∈ cs, p.2 = b := fun b hb => by rw [ets] at hb; exact List.mem_map.mp hb
  have tabAt : ∀ b ∈ ts, s.heap.get? b = some tab0 := fun b hb => by
    obtain ⟨p, hp, rfl⟩ := ofTs b hb
    exact tabs p hp
  have aOut : a ∉ ts := fun z => by
    have e := congrArg Obj.data (Option.some.inj (scr.symm.trans (tabAt a z)))
    cases e
  have free : ∀ {b : Addr} {o : Obj}, s.heap.get? b = some o → o.data ≠ .fields #[] → (∀ xs n, o.data ≠ .seq xs n) → hp0 K ts a vs ns b = none := fun e n1 n2 => hp0_none tabAt scr e (ne_tab n1) (ne_scr n2)
  have hide : ∀ {b : Addr} {o : Obj}, s.heap.get? b = some o → o.data ≠ .fields #[] → (∀ xs n, o.data ≠ .seq xs n) → (hidT s.heap (hp0 K ts a vs ns)).get? b = some o := fun e n1 n2 => hidT_get e (free e n1 n2)
  have dct : ∀ {b : Addr} {m : Str → Option Value}, s.heap.Ns b m → (hidT s.heap (hp0 K ts a vs ns)).Ns b m := fun {b m} ⟨o, es, ep, e, d, r⟩ =>
    ⟨o, es, ep, hide e (by rw [d]; exact fun z => by cases z) (by rw [d]; exact fun _ _ z => by cases z), d, r⟩
  have rv := vals_ints hints
  -- the heap without the tracked objects
  have kIn : K.In (hidT s.heap (hp0 K ts a vs ns)) := fun b o e => hidT_get (inK b o e) (by
    rcases hp0_cases (K := K) (ts := ts) (a := a) (vs := vs) (ns := ns) b with ⟨q, _⟩ | ⟨_, rfl, q, _⟩ | q
    · obtain ⟨p, hp, rfl⟩ := ofTs b q
      rw [out p hp] at e
      cases e
    · rw [q] at e
      cases e
    · exact q)
  have md : L2.Mod K mg (hidT s.heap (hp0 K ts a vs ns)) := ⟨kIn, dct nsG, ⟨mb, dct nsB, boot⟩, by obtain ⟨mc, h1, h2⟩ := lim; exact ⟨mc, dct h1, h2⟩⟩
  have tb : ∀ p ∈ cs, TabB (hidT s.heap (hp0 K ts a vs ns)) mg p.1 p.2 := fun p hp => by
    have et := tabs p hp
    constructor
    · obtain ⟨o, us, file, tf, flags, tg, inF, text, tt, e1, c1, c2, c3, rest⟩ := codes p hp
      refine ⟨o, us, file, tf, flags, tg, inF, text, tt, hide e1 (fun z => ?_) (fun _ _ z => ?_), c1, c2, c3, rest⟩
      · rw [c2] at z
        injection z with z
        rw [z] at c3
        simp at c3
      · rw [c2] at z
        cases z
    · obtain ⟨m, o, b1, b2, b3, b4, b5, b6⟩ := bm
      refine ⟨m, o, b1, b2, fun q => ?_, fun q => ?_, hide b3 (by rw [b6]; exact fun z => by cases z) (by rw [b6]; exact fun _ _ z => by cases z), b4, b5, b6⟩
      · obtain ⟨g, es, ep, eg, dg, _⟩ := nsG
        rw [q] at b3
        have := Option.some.inj (b3.symm.trans eg)
        rw [this, dg] at b6
        cases b6
      · rw [q] at b3
        have := Option.some.inj (b3.symm.trans et)
        rw [this] at b6
        cases b6
    · intro z
      obtain ⟨g, es, ep, eg, dg, _⟩ := nsG
      rw [z] at eg
      have := Option.some.inj (eg.symm.trans et)
      rw [this] at dg
      cases dg
  -- the tracked objects are as they stand
  have hok : HOk P w (hp0 K ts a vs ns) s.heap := fun b u e => by
    rcases hp0_cases (K := K) (ts := ts) (a := a) (vs := vs) (ns := ns) b with ⟨q, z⟩ | ⟨_, rfl, _, z⟩ | z
    · rw [z] at e
      cases e
      exact tabAt b q
    · rw [z] at e
      cases e
      exact ⟨scr, by rw [List.length_map]; exact few, vs, _, rv, scr⟩
    · rw [z] at e
      cases e
  have list : SqL K (hp0 K ts a vs ns) a (ns.map V.int) := by
    cases q : K.lookup a with
    | none => exact .inl (.inr ⟨scr0 vs, (if_neg aOut).trans (if_pos ⟨rfl, q⟩)⟩)
    | some o =>
      have e := Option.some.inj ((inK a o q).symm.trans scr)
      subst e
      exact .inr ⟨_, vs.toArray, _, q, rfl, rfl, rfl, by rw [List.size_toArray, hints.length]; exact few, by simpa using rv⟩
  have ev : Env0 P w K mg (hidT s.heap (hp0 K ts a vs ns)) callerA [] s (hp0 K ts a vs ns) :=
    ⟨rfl, md, fun b o e => of_hidT e, Nat.le_of_eq (hidT_size _ _), trivial, fun b hb => absurd hb List.not_mem_nil, hok, .of_eq gens⟩
  refine codeAny_mono ((F _ kIn (dct nsG) tb).run callerA [] s _ ⟨[.ref a], []⟩ [.ref a] [.ref a] _ _ rfl room ev (binds s (.ref a)) (.cons rfl .nil) (keeps _ (fun p hp => hp0_tab (inTs p hp)) list)) ?_
  intro r s' h
  match r, h with
  | .error e, h => exact h.elim
  | .ok .next, h => exact h.elim
  | .ok .brk, h => exact h.elim
  | .ok .cont, h => exact h.elim
  | .ok (.ret u), ⟨v, H', os, bare, un, hok', rel, ans⟩ =>
    have ev : v = .bl true := ans
    subst ev
    have eu : u = Value.bool true := rel
    subst eu
    have more : ∀ b ∈ ts, ∃ xs : Array Value, s'.heap.get? b = some { cls := .none, data := .fields xs } := fun b hb => by
      obtain ⟨xs, z⟩ := un.tbls b #[] (hp0_tab hb)
      exact ⟨_, hok' b _ z⟩
    have same : ∀ b o, b ∉ ts → s.heap.get? b = some o → s'.heap.get? b = some o := fun b o nb e => by
      rcases hp0_cases (K := K) (ts := ts) (a := a) (vs := vs) (ns := ns) b with ⟨q, _⟩ | ⟨_, rfl, _, z⟩ | z
      · exact absurd q nb
      · have e2 := (hok' b _ (un.frzs b _ _ z)).1
        rw [Option.some.inj (e.symm.trans scr)]
        exact e2
      · exact un.keep b o e z List.not_mem_nil List.not_mem_nil
    refine ⟨rfl, ⟨fun b o e => ?_, fun b o e => ?_⟩, os, bare⟩
    · by_cases hb : b ∈ ts
      · obtain ⟨p, hp, rfl⟩ := ofTs b hb
        obtain ⟨xs, z⟩ := more _ hb
        have eo := Option.some.inj (e.symm.trans (tabs p hp))
        subst eo
        exact .inr (.inl ⟨((codes p hp).tab (tabs p hp)).isCodeTable, rfl, #[], xs, rfl, by rw [Array.empty_append]; exact z⟩)
      · exact .inl (same b o hb e)
    · by_cases hb : b ∈ ts
      · obtain ⟨xs, z⟩ := more _ hb
        exact ⟨_, z⟩
      · exact ⟨o, same b o hb e⟩
end
/-- what the head must tell of the law's def -/
structure LawG (l : PySem.W.OpenLaw) (w : World) (K : PySem.W.Frag) (k n : Nat) (x : Str) (mg : Str → Option Value) (fa : Addr) (h : Heap) : Prop where
  ex : ∃ (fd : FuncData) (cs : List (Addr × Addr)) (sp : Sp), (∀ p ∈ cs, h.get? p.2 = some tab0 ∧ K.lookup p.2 = none ∧ PySem.W.CodeHd h p.1 p.2) ∧ (∀ (s : Shared) (u : Value), BindsTo s fd ⟨[u], []⟩ [(x, u)]) ∧
    (∀ (H : Hp) (a : Addr) (ns : List Int), ns.length ≤ n → (∀ p ∈ cs, H p.2 = some (.tbl #[])) → SqL K H a (ns.map V.int) → sp [.ref a] H (fun v _ => v = .bl true) fun _ _ _ => False) ∧
    ∀ base : Heap, K.In base → base.Ns mainGlobals mg → (∀ p ∈ cs, TabB base mg p.1 p.2) → FnG l.prog w K mg base k fa fd [x] sp
theorem walkG {l : PySem.W.OpenLaw} {n k : Nat} {q : Program} {loose : List Str} {XP : (Str → Option Value) → Heap → Prop} {YP : World → Heap → Prop} {d : DefRec} {x : Str} (hn : l.most = some n) (hs : n ≤ sizeLine) (hd : d.params.defaults = []) (room : Room k callerA)
    (F : ∀ (w : World) (mg : Str → Option Value) (fa : Addr) (h : Heap), YP w h → h.Ns mainGlobals mg → mg d.name = some (.ref fa) → ∃ K : PySem.W.Frag, K.In h ∧ LawG l w K k n x mg fa h) :
    PySem.W.WalkO q loose XP YP l.row.toRowW d [] (fun f vs => PySem.call f vs) := by
  refine Att.attach_callB hn hd ?_
  intro w s₀ s₁ mg mb fa o pm cd doc a vs ns G Y ho hdat hcd hmg hobj hints hlen hbits hg
  obtain ⟨K, inK, L⟩ := F w mg fa _ Y G.T.g hmg
  obtain ⟨fd, cs, sp, hc, hb, hsp, hF⟩ := L.ex
  exact callG (sp := sp) inK G.T.g G.T.b G.T.builtins G.T.nolimit hg (fun p hp => (hc p hp).1) (fun p hp => (hc p hp).2.1) (fun p hp => (hc p hp).2.2) G.T.bmain hobj hints (Nat.le_trans hlen hs) room hF hb fun H hH hS => hsp H a ns hlen hH hS
end Dat

set_option Elab.async false
set_option linter.all false
set_option maxRecDepth 100000
set_option maxHeartbeats 0
namespace Fu
open PySem PySem.Spec PyProof.Rows L2 Dat LamX RZ
def d_isrow : He.DefD := ⟨("is_row", none), "is_row", "is_row", defArgs s_isrow, defBody s_isrow, defScope s_isrow, [], []⟩
def d_istree : He.DefD := ⟨("is_tree", none), "is_tree", "is_tree", defArgs s_istree, defBody s_istree, defScope s_istree, [], []⟩
def d_islike : He.DefD := ⟨("is_like", none), "is_like", "is_like", defArgs s_islike, defBody s_islike, defScope s_islike, [], []⟩
def d_thingsof : He.DefD := ⟨("things_of", none), "things_of", "things_of", defArgs s_thingsof, defBody s_thingsof, defScope s_thingsof, [], []⟩
def d_haslike : He.DefD := ⟨("has_like", none), "has_like", "has_like", defArgs s_haslike, defBody s_haslike, defScope s_haslike, [], []⟩
def d_comesby : He.DefD := ⟨("comes_by", none), "comes_by", "comes_by", defArgs s_comesby, defBody s_comesby, defScope s_comesby, [], []⟩
def d_foundin : He.DefD := ⟨("found_in", none), "found_in", "found_in", defArgs s_foundin, defBody s_foundin, defScope s_foundin, [], []⟩
def d_valueat : He.DefD := ⟨("value_at", none), "value_at", "value_at", defArgs s_valueat, defBody s_valueat, defScope s_valueat, [], []⟩
def d_lfeed : He.DefD := ⟨("_law_feed", none), "_law_feed", "_law_feed", defArgs s_lfeed, defBody s_lfeed, defScope s_lfeed, [], []⟩
def d_ldraw : He.DefD := ⟨("_law_draw", none), "_law_draw", "_law_draw", defArgs s_ldraw, defBody s_ldraw, defScope s_ldraw, [], []⟩
def d_lplain : He.DefD := ⟨("_law_plain", none), "_law_plain", "_law_plain", defArgs s_lplain, defBody s_lplain, defScope s_lplain, [], []⟩
def d_ltree : He.DefD := ⟨("_law_tree", none), "_law_tree", "_law_tree", defArgs s_ltree, defBody s_ltree, defScope s_ltree, [], []⟩
def d_lvalue : He.DefD := ⟨("_law_value", none), "_law_value", "_law_value", defArgs s_lvalue, defBody s_lvalue, defScope s_lvalue, [], []⟩
def d_ldocument : He.DefD := ⟨("_law_document", none), "_law_document", "_law_document", defArgs s_ldocument, defBody s_ldocument, defScope s_ldocument, [], []⟩
def d_lisa : He.DefD := ⟨("_law_is_a", none), "_law_is_a", "_law_is_a", defArgs s_lisa, defBody s_lisa, defScope s_lisa, [], []⟩
def d_lstep : He.DefD := ⟨("_law_step", none), "_law_step", "_law_step", defArgs s_lstep, defBody s_lstep, defScope s_lstep, [], []⟩
def d_lpath : He.DefD := ⟨("_law_path", none), "_law_path", "_law_path", defArgs s_lpath, defBody s_lpath, defScope s_lpath, [], []⟩
def d_lcome : He.DefD := ⟨("_law_come", none), "_law_come", "_law_come", defArgs s_lcome, defBody s_lcome, defScope s_lcome, [], []⟩
def d_lfound : He.DefD := ⟨("_law_found", none), "_law_found", "_law_found", defArgs s_lfound, defBody s_lfound, defScope s_lfound, [], []⟩
def d_lat : He.DefD := ⟨("_law_at", none), "_law_at", "_law_at", defArgs s_lat, defBody s_lat, defScope s_lat, [], []⟩
def d_lplaces : He.DefD := ⟨("_law_places", none), "_law_places", "_law_places", defArgs s_lplaces, defBody s_lplaces, defScope s_lplaces, [], []⟩
def d_law : He.DefD := ⟨("law", none), "law", "law", defArgs s_law, defBody s_law, defScope s_law, [], []⟩
def fnH : List He.DefD := [d_isrow, d_istree, d_islike, d_thingsof, d_haslike, d_comesby, d_foundin, d_valueat, d_lfeed, d_ldraw, d_lplain, d_ltree, d_lvalue, d_ldocument, d_lisa, d_lstep, d_lpath, d_lcome, d_lfound, d_lat, d_lplaces, d_law]
def faH : List He.Fa := [.glo "is_row", .glo "is_tree", .glo "is_like", .glo "things_of", .glo "has_like", .glo "comes_by", .glo "found_in", .glo "value_at", .glo "_law_feed", .glo "_law_draw", .glo "_law_plain", .glo "_law_tree", .glo "_law_value", .glo "_law_document", .glo "_law_is_a", .glo "_law_step", .glo "_law_path", .glo "_law_come", .glo "_law_found", .glo "_law_at", .glo "_law_places", .glo "law", .free "all", .free "bool", .free "dict", .free "enumerate", .free "isinstance", .free "len", .free "list", .free "min", .free "range", .free "repr", .free "sorted", .free "str", .free "tuple", .free "zip"]
def tfH : List He.Defn := [("_law_tree", none)]
def exH (K : PySem.W.Frag) : Bool := true
abbrev RH : PySem.W.OpenRow := PySem.W.OpenLaw.row PySem.Challenge.rw_pathfolios_k04_found
abbrev hkH : PySem.W.Hook := He.hookX 4 faH fnH [] tfH exH
def obH (s : PySem.W.SharedT) : He.AlX := He.obsX 4 faH fnH [] tfH exH (HandSHeadRun.getT s)
theorem obH_eq (s : PySem.W.SharedT) : obH s = hkH.obs s.abs := He.obsX_eq (HandSHeadRun.getT_eq s)
def looseH : List Str := ["is_row", "is_tree", "is_like", "things_of", "has_like", "comes_by", "found_in", "value_at", "_law_feed", "_law_draw", "_law_plain", "_law_tree", "_law_value", "_law_document", "_law_is_a", "_law_step", "_law_path", "_law_come", "_law_found", "_law_at", "_law_places"]
theorem runH (w : World) : HandSHeadRun.RunEq RH (PySem.W.view RH.prog [25]) hkH obH 900 looseH w := by
  intro os
  kernel_rfl
theorem fun_of {K : PySem.W.Frag} {x : Str} {st : Stmt} {f : Addr} {fd : FuncData} (F : FunD K x x (defArgs st) (defBody st) (defScope st) [] [] f fd) : Fun K x x st f fd := by
  obtain ⟨oc, od, dV, kV, doc, pm, an, cdv, ct, osl, e, lk, hcd, hD, _⟩ := F.ex
  rcases hD with ⟨_, rfl⟩ | ⟨z, _⟩
  · exact ⟨⟨oc, od, kV, doc, pm, an, cdv, ct, osl, e, lk, hcd⟩, F.kp⟩
  · exact absurd rfl z
theorem funC_of {K : PySem.W.Frag} {x : Str} {st : Stmt} {fd : FuncData} (F : Fun K x x st (He.fAd K (x, none)) fd) : FunC K x x st (He.fAd K (x, none)) fd (.ref (He.cT K (x, none)).1) := by
  obtain ⟨oc, od, kV, doc, pm, an, cdv, ct, osl, e, lk, hcd⟩ := F.ex
  obtain ⟨c, rfl⟩ := He.codeIn_ref hcd
  have ec : (He.cT K (x, none)).1 = c := He.codeOf_eq lk (by rw [e])
  rw [ec]
  exact ⟨⟨oc, od, kV, doc, pm, an, ct, osl, e, lk, hcd⟩, F.kp⟩
theorem tabS_new {H : Hp} {P : Addr} {q : Str} (h : H P = some (.tbl #[])) : TabS H P q := ⟨#[], h, trivial, fun pos cv z => by cases z⟩
theorem ints_dm2 {K : PySem.W.Frag} {ms : Ms} {H : Hp} : ∀ ns : List Int, DmAll K ms H (ns.map V.int) (ns.map PyData.int)
  | [] => .nil
  | n :: ns => .cons (.int n) (ints_dm2 ns)
theorem law_sp {K : PySem.W.Frag} {T : List (Addr × Str)} {H : Hp} {a : Addr} {ns : List Int} (hS : SqL K H a (ns.map V.int)) (hT : Tabs T H) : spF K T F_law [.ref a] H (fun v _ => v = .bl true) fun _ _ _ => False := by
  have R : RelM K T ⟨[], [], []⟩ [] H := ⟨rfl, .nil, fun i b o h => (by cases h), fun b h => (by cases h), hT, fun q h => (by cases h)⟩
  have nm : a ∉ (⟨[], [], []⟩ : Ms) := fun z => z.elim (fun y => by cases y) fun y => by cases y
  have fin : ∀ w : Wv, RepW K ⟨[], [], []⟩ H (.ref a) w → ((F_law [w] []).on fun u _ => u = .d (.bool true)) → spF K T F_law [.ref a] H (fun v _ => v = .bl true) fun _ _ _ => False := fun w rw h =>
    ⟨⟨[], [], []⟩, [w], [], R, .cons rw .nil, on_imp h fun u M' e ms' H' v _ _ r => by
      subst e
      cases r
      rfl⟩
  rcases hS with (h | ⟨o, h⟩) | ⟨o, its, n, h1, h2, h3, h4, h5, h6⟩
  · exact fin (.d (.list (ns.map PyData.int))) (show Dm K _ H (.ref a) _ from .lst ⟨h, nm⟩ (ints_dm2 ns)) (law_on (feedD_on ns))
  · exact fin (.s ns) ⟨a, rfl, .inl ⟨o, h, nm⟩⟩ (law_on (feed_on (by intro o ho; cases ho)))
  · exact fin (.s ns) ⟨a, rfl, .inr ⟨o, its, n, h1, h2, h3, h4, h5, h6⟩⟩ (law_on (feed_on (by intro o ho; cases ho)))
theorem facts {w : World} {h : Heap} {K : PySem.W.Frag} {mg : Str → Option Value} {fa : Addr} (inK : K.In h) (G : h.Ns mainGlobals mg) (hfa : mg ("law" : Str) = some (.ref fa)) (c : He.SaysX faH fnH [] tfH exH w h K) : LawG PySem.Challenge.rw_pathfolios_k04_found w K 19 63 "_law_script" mg fa h := by
  have cd : He.SaysD faH fnH K := c.t.d
  obtain ⟨fd_isrow, F_isrow⟩ := cd.def_ 0 (d := d_isrow) rfl
  obtain ⟨fd_istree, F_istree⟩ := cd.def_ 1 (d := d_istree) rfl
  obtain ⟨fd_islike, F_islike⟩ := cd.def_ 2 (d := d_islike) rfl
  obtain ⟨fd_thingsof, F_thingsof⟩ := cd.def_ 3 (d := d_thingsof) rfl
  obtain ⟨fd_haslike, F_haslike⟩ := cd.def_ 4 (d := d_haslike) rfl
  obtain ⟨fd_comesby, F_comesby⟩ := cd.def_ 5 (d := d_comesby) rfl
  obtain ⟨fd_foundin, F_foundin⟩ := cd.def_ 6 (d := d_foundin) rfl
  obtain ⟨fd_valueat, F_valueat⟩ := cd.def_ 7 (d := d_valueat) rfl
  obtain ⟨fd_lfeed, F_lfeed⟩ := cd.def_ 8 (d := d_lfeed) rfl
  obtain ⟨fd_ldraw, F_ldraw⟩ := cd.def_ 9 (d := d_ldraw) rfl
  obtain ⟨fd_lplain, F_lplain⟩ := cd.def_ 10 (d := d_lplain) rfl
  obtain ⟨fd_ltree, F_ltree⟩ := cd.def_ 11 (d := d_ltree) rfl
  obtain ⟨fd_lvalue, F_lvalue⟩ := cd.def_ 12 (d := d_lvalue) rfl
  obtain ⟨fd_ldocument, F_ldocument⟩ := cd.def_ 13 (d := d_ldocument) rfl
  obtain ⟨fd_lisa, F_lisa⟩ := cd.def_ 14 (d := d_lisa) rfl
  obtain ⟨fd_lstep, F_lstep⟩ := cd.def_ 15 (d := d_lstep) rfl
  obtain ⟨fd_lpath, F_lpath⟩ := cd.def_ 16 (d := d_lpath) rfl
  obtain ⟨fd_lcome, F_lcome⟩ := cd.def_ 17 (d := d_lcome) rfl
  obtain ⟨fd_lfound, F_lfound⟩ := cd.def_ 18 (d := d_lfound) rfl
  obtain ⟨fd_lat, F_lat⟩ := cd.def_ 19 (d := d_lat) rfl
  obtain ⟨fd_lplaces, F_lplaces⟩ := cd.def_ 20 (d := d_lplaces) rfl
  obtain ⟨fd_law, F_law⟩ := cd.def_ 21 (d := d_law) rfl
  have g_isrow : mg "is_row" = some (.ref (He.ga K "is_row")) := He.glo_ok inK G (cd.fact 0 (f := .glo "is_row") rfl)
  have g_istree : mg "is_tree" = some (.ref (He.ga K "is_tree")) := He.glo_ok inK G (cd.fact 1 (f := .glo "is_tree") rfl)
  have g_islike : mg "is_like" = some (.ref (He.ga K "is_like")) := He.glo_ok inK G (cd.fact 2 (f := .glo "is_like") rfl)
  have g_thingsof : mg "things_of" = some (.ref (He.ga K "things_of")) := He.glo_ok inK G (cd.fact 3 (f := .glo "things_of") rfl)
  have g_haslike : mg "has_like" = some (.ref (He.ga K "has_like")) := He.glo_ok inK G (cd.fact 4 (f := .glo "has_like") rfl)
  have g_comesby : mg "comes_by" = some (.ref (He.ga K "comes_by")) := He.glo_ok inK G (cd.fact 5 (f := .glo "comes_by") rfl)
  have g_foundin : mg "found_in" = some (.ref (He.ga K "found_in")) := He.glo_ok inK G (cd.fact 6 (f := .glo "found_in") rfl)
  have g_valueat : mg "value_at" = some (.ref (He.ga K "value_at")) := He.glo_ok inK G (cd.fact 7 (f := .glo "value_at") rfl)
  have g_lfeed : mg "_law_feed" = some (.ref (He.ga K "_law_feed")) := He.glo_ok inK G (cd.fact 8 (f := .glo "_law_feed") rfl)
  have g_ldraw : mg "_law_draw" = some (.ref (He.ga K "_law_draw")) := He.glo_ok inK G (cd.fact 9 (f := .glo "_law_draw") rfl)
  have g_lplain : mg "_law_plain" = some (.ref (He.ga K "_law_plain")) := He.glo_ok inK G (cd.fact 10 (f := .glo "_law_plain") rfl)
  have g_ltree : mg "_law_tree" = some (.ref (He.ga K "_law_tree")) := He.glo_ok inK G (cd.fact 11 (f := .glo "_law_tree") rfl)
  have g_lvalue : mg "_law_value" = some (.ref (He.ga K "_law_value")) := He.glo_ok inK G (cd.fact 12 (f := .glo "_law_value") rfl)
  have g_ldocument : mg "_law_document" = some (.ref (He.ga K "_law_document")) := He.glo_ok inK G (cd.fact 13 (f := .glo "_law_document") rfl)
  have g_lisa : mg "_law_is_a" = some (.ref (He.ga K "_law_is_a")) := He.glo_ok inK G (cd.fact 14 (f := .glo "_law_is_a") rfl)
  have g_lstep : mg "_law_step" = some (.ref (He.ga K "_law_step")) := He.glo_ok inK G (cd.fact 15 (f := .glo "_law_step") rfl)
  have g_lpath : mg "_law_path" = some (.ref (He.ga K "_law_path")) := He.glo_ok inK G (cd.fact 16 (f := .glo "_law_path") rfl)
  have g_lcome : mg "_law_come" = some (.ref (He.ga K "_law_come")) := He.glo_ok inK G (cd.fact 17 (f := .glo "_law_come") rfl)
  have g_lfound : mg "_law_found" = some (.ref (He.ga K "_law_found")) := He.glo_ok inK G (cd.fact 18 (f := .glo "_law_found") rfl)
  have g_lat : mg "_law_at" = some (.ref (He.ga K "_law_at")) := He.glo_ok inK G (cd.fact 19 (f := .glo "_law_at") rfl)
  have g_lplaces : mg "_law_places" = some (.ref (He.ga K "_law_places")) := He.glo_ok inK G (cd.fact 20 (f := .glo "_law_places") rfl)
  have g_law : mg "law" = some (.ref (He.ga K "law")) := He.glo_ok inK G (cd.fact 21 (f := .glo "law") rfl)
  have m_all : mg "all" = none := He.free_ok inK G (cd.fact 22 (f := .free "all") rfl)
  have m_bool : mg "bool" = none := He.free_ok inK G (cd.fact 23 (f := .free "bool") rfl)
  have m_dict : mg "dict" = none := He.free_ok inK G (cd.fact 24 (f := .free "dict") rfl)
  have m_enumerate : mg "enumerate" = none := He.free_ok inK G (cd.fact 25 (f := .free "enumerate") rfl)
  have m_isinstance : mg "isinstance" = none := He.free_ok inK G (cd.fact 26 (f := .free "isinstance") rfl)
  have m_len : mg "len" = none := He.free_ok inK G (cd.fact 27 (f := .free "len") rfl)
  have m_list : mg "list" = none := He.free_ok inK G (cd.fact 28 (f := .free "list") rfl)
  have m_min : mg "min" = none := He.free_ok inK G (cd.fact 29 (f := .free "min") rfl)
  have m_range : mg "range" = none := He.free_ok inK G (cd.fact 30 (f := .free "range") rfl)
  have m_repr : mg "repr" = none := He.free_ok inK G (cd.fact 31 (f := .free "repr") rfl)
  have m_sorted : mg "sorted" = none := He.free_ok inK G (cd.fact 32 (f := .free "sorted") rfl)
  have m_str : mg "str" = none := He.free_ok inK G (cd.fact 33 (f := .free "str") rfl)
  have m_tuple : mg "tuple" = none := He.free_ok inK G (cd.fact 34 (f := .free "tuple") rfl)
  have m_zip : mg "zip" = none := He.free_ok inK G (cd.fact 35 (f := .free "zip") rfl)
  have D_isrow : DefG K mg "is_row" s_isrow := ⟨_, _, fun_of F_isrow, g_isrow⟩
  have D_istree : DefG K mg "is_tree" s_istree := ⟨_, _, fun_of F_istree, g_istree⟩
  have D_islike : DefG K mg "is_like" s_islike := ⟨_, _, fun_of F_islike, g_islike⟩
  have D_thingsof : DefG K mg "things_of" s_thingsof := ⟨_, _, fun_of F_thingsof, g_thingsof⟩
  have D_haslike : DefG K mg "has_like" s_haslike := ⟨_, _, fun_of F_haslike, g_haslike⟩
  have D_comesby : DefG K mg "comes_by" s_comesby := ⟨_, _, fun_of F_comesby, g_comesby⟩
  have D_foundin : DefG K mg "found_in" s_foundin := ⟨_, _, fun_of F_foundin, g_foundin⟩
  have D_valueat : DefG K mg "value_at" s_valueat := ⟨_, _, fun_of F_valueat, g_valueat⟩
  have D_lfeed : DefG K mg "_law_feed" s_lfeed := ⟨_, _, fun_of F_lfeed, g_lfeed⟩
  have D_ldraw : DefG K mg "_law_draw" s_ldraw := ⟨_, _, fun_of F_ldraw, g_ldraw⟩
  have D_lplain : DefG K mg "_law_plain" s_lplain := ⟨_, _, fun_of F_lplain, g_lplain⟩
  have D_ltree : DefC K mg "_law_tree" s_ltree (.ref (He.cT K ("_law_tree", none)).1) := ⟨_, _, funC_of (fun_of F_ltree), g_ltree⟩
  have D_lvalue : DefG K mg "_law_value" s_lvalue := ⟨_, _, fun_of F_lvalue, g_lvalue⟩
  have D_ldocument : DefG K mg "_law_document" s_ldocument := ⟨_, _, fun_of F_ldocument, g_ldocument⟩
  have D_lisa : DefG K mg "_law_is_a" s_lisa := ⟨_, _, fun_of F_lisa, g_lisa⟩
  have D_lstep : DefG K mg "_law_step" s_lstep := ⟨_, _, fun_of F_lstep, g_lstep⟩
  have D_lpath : DefG K mg "_law_path" s_lpath := ⟨_, _, fun_of F_lpath, g_lpath⟩
  have D_lcome : DefG K mg "_law_come" s_lcome := ⟨_, _, fun_of F_lcome, g_lcome⟩
  have D_lfound : DefG K mg "_law_found" s_lfound := ⟨_, _, fun_of F_lfound, g_lfound⟩
  have D_lat : DefG K mg "_law_at" s_lat := ⟨_, _, fun_of F_lat, g_lat⟩
  have D_lplaces : DefG K mg "_law_places" s_lplaces := ⟨_, _, fun_of F_lplaces, g_lplaces⟩
  have e := hfa.symm.trans g_law
  cases e
  have b := FunD.bindsA (ps := ["_law_script"]) F_law fun _ _ _ _ _ _ us hl => match us, hl with | [_], _ => rfl
  have ht : (("_law_tree", none) : He.Defn) ∈ tfH := by simp [tfH]
  refine ⟨fd_law, [He.cT K ("_law_tree", none)], spF K [((He.cT K ("_law_tree", none)).2, lamQ "_law_tree")] Fu.F_law, fun p hp => ?_, fun s v => b s [v] rfl, fun H a ns hlen hH hS => ?_, fun base inB GB TB => ?_⟩
  · rw [List.mem_singleton.mp hp]
    exact ⟨c.empty _ ht, c.out _ ht, PySem.W.codeHd_of_K inK (c.hd _ ht)⟩
  · refine law_sp hS fun p hp => ?_
    rw [List.mem_singleton.mp hp]
    exact tabS_new (hH _ (by simp))
  · generalize hTT : [((He.cT K ("_law_tree", none)).2, lamQ "_law_tree")] = TT
    have mt : ((He.cT K ("_law_tree", none)).2, lamQ "_law_tree") ∈ TT := by rw [← hTT]; simp
    have mu : ∀ p ∈ TT, p.1 = (He.cT K ("_law_tree", none)).2 → p.2 = lamQ "_law_tree" := fun p hp z => by
      rw [← hTT] at hp
      rw [List.mem_singleton.mp hp]
    have c_isrow := c_isrow (P := (PySem.Challenge.rw_pathfolios_k04_found).prog) (w := w) (base := base) (T := TT) D_isrow m_isinstance m_tuple
    have c_istree := c_istree (P := (PySem.Challenge.rw_pathfolios_k04_found).prog) (w := w) (base := base) (T := TT) D_istree m_isinstance m_tuple
    have c_islike := c_islike (P := (PySem.Challenge.rw_pathfolios_k04_found).prog) (w := w) (base := base) (T := TT) D_islike m_all m_bool m_isinstance m_len m_tuple m_zip
    have c_thingsof := c_thingsof (P := (PySem.Challenge.rw_pathfolios_k04_found).prog) (w := w) (base := base) (T := TT) D_thingsof c_isrow c_istree m_dict m_enumerate
    have c_haslike := c_haslike (P := (PySem.Challenge.rw_pathfolios_k04_found).prog) (w := w) (base := base) (T := TT) D_haslike (c_islike 15) c_thingsof
    have c_comesby := c_comesby (P := (PySem.Challenge.rw_pathfolios_k04_found).prog) (w := w) (base := base) (T := TT) D_comesby c_haslike c_isrow c_thingsof m_list
    have c_foundin := c_foundin (P := (PySem.Challenge.rw_pathfolios_k04_found).prog) (w := w) (base := base) (T := TT) D_foundin c_comesby m_tuple
    have c_valueat := c_valueat (P := (PySem.Challenge.rw_pathfolios_k04_found).prog) (w := w) (base := base) (T := TT) D_valueat c_thingsof
    have c_lfeed := c_lfeed (P := (PySem.Challenge.rw_pathfolios_k04_found).prog) (w := w) (base := base) (T := TT) D_lfeed 
    have c_ldraw := c_ldraw (P := (PySem.Challenge.rw_pathfolios_k04_found).prog) (w := w) (base := base) (T := TT) D_ldraw m_len
    have c_lplain := c_lplain (P := (PySem.Challenge.rw_pathfolios_k04_found).prog) (w := w) (base := base) (T := TT) D_lplain c_ldraw
    have c_ltree := c_ltree (P := (PySem.Challenge.rw_pathfolios_k04_found).prog) (w := w) (base := base) (T := TT) D_ltree (TB _ (by simp)) mt mu c_ldraw m_len m_sorted m_tuple
    have c_lvalue := c_lvalue (P := (PySem.Challenge.rw_pathfolios_k04_found).prog) (w := w) (base := base) (T := TT) D_lvalue c_ldraw c_lplain c_ltree m_min m_range m_tuple
    have c_ldocument := c_ldocument (P := (PySem.Challenge.rw_pathfolios_k04_found).prog) (w := w) (base := base) (T := TT) D_ldocument c_ldraw c_ltree (c_lvalue 4) m_range
    have c_lisa := c_lisa (P := (PySem.Challenge.rw_pathfolios_k04_found).prog) (w := w) (base := base) (T := TT) D_lisa m_isinstance m_tuple
    have c_lstep := c_lstep (P := (PySem.Challenge.rw_pathfolios_k04_found).prog) (w := w) (base := base) (T := TT) D_lstep c_ldraw c_lplain
    have c_lpath := c_lpath (P := (PySem.Challenge.rw_pathfolios_k04_found).prog) (w := w) (base := base) (T := TT) D_lpath c_ldraw c_lisa c_lstep m_isinstance m_len m_range m_tuple
    have c_lcome := c_lcome (P := (PySem.Challenge.rw_pathfolios_k04_found).prog) (w := w) (base := base) (T := TT) D_lcome c_lisa m_enumerate m_list m_repr
    have c_lfound := c_lfound (P := (PySem.Challenge.rw_pathfolios_k04_found).prog) (w := w) (base := base) (T := TT) D_lfound c_lcome
    have c_lat := c_lat (P := (PySem.Challenge.rw_pathfolios_k04_found).prog) (w := w) (base := base) (T := TT) D_lat c_lcome m_isinstance m_str
    have c_lplaces := c_lplaces (P := (PySem.Challenge.rw_pathfolios_k04_found).prog) (w := w) (base := base) (T := TT) D_lplaces c_ldraw m_len
    exact fn_law (P := (PySem.Challenge.rw_pathfolios_k04_found).prog) (w := w) (base := base) (T := TT) (fun_of F_law) c_foundin c_lat c_ldocument c_lfeed c_lfound c_lpath c_lplaces c_lplain c_valueat m_range m_repr m_tuple
end Fu
open PySem PySem.W PySem.Calls PyProof.Rows
theorem PySem.Challenge.cw_pathfolios_k04_found_holds : PySem.Challenge.rw_pathfolios_k04_found.Holds := by
  w_on; o_law
  refine HandSHeadRun.head_any (r := OpenLaw.row PySem.Challenge.rw_pathfolios_k04_found) (q := view (OpenLaw.row PySem.Challenge.rw_pathfolios_k04_found).prog [25]) (H := Fu.hkH) (ob := Fu.obH) (M := 900) (loose := Fu.looseH) (d := HandSHeadRun.topDef (OpenLaw.row PySem.Challenge.rw_pathfolios_k04_found).prog 25) (kwd := []) Fu.obH_eq
    (by kernel_rfl) (fun s => by kernel_rfl) Fu.runH (by kernel_rfl) (by kernel_rfl) (by kernel_rfl) (by rfl) (by first | assumption | decide +kernel) (by decide +kernel) ⟨rfl, rfl, rfl, rfl, rfl, by decide +kernel⟩ ?hw ?hc
  case hw => w_witness2
  case hc =>
    refine Dat.walkG (l := PySem.Challenge.rw_pathfolios_k04_found) (n := 63) (k := 19) (x := "_law_script") rfl (by decide) (by kernel_rfl) ⟨rfl, by decide, by decide⟩ ?F
    intro w mg fa h Y G hmg0
    obtain ⟨K, inK, c⟩ := Y
    have hmg : mg ("law" : PySem.Str) = some (.ref fa) := by
      have e : (HandSHeadRun.topDef (OpenLaw.row PySem.Challenge.rw_pathfolios_k04_found).prog 25).name = ("law" : PySem.Str) := by kernel_rfl
      rw [← e]
      exact hmg0
    exact ⟨K, inK, Fu.facts inK G hmg c⟩
