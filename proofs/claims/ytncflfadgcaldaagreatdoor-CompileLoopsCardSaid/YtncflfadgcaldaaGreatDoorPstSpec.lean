/-
  The plain parser of declarations, statements, threads and programs over lists of tokens. Nothing of the program stands here.
-/
import Derived.Test.YtncflfadgcaldaaGreatDoorParSpec
namespace Go.Proofs.YtncflfadgcaldaaGreatDoor.Par
open Tok (Bs T)

/-- A declaration. -/
structure Dc where
  kind : Nat
  line : Nat
  name : Bs
  size : Nat
  init : Int
  on : Bs
/-- A statement: kind, line, name, second name, index, expression, body, else. -/
inductive Sm where
  | mk (op line : Nat) (name arg : Bs) (ix : List E) (ex : E) (body els : List Sm)
structure Th where
  name : Bs
  line : Nat
  locals : List Bs
  body : List Sm
structure Pg where
  decls : List Dc
  threads : List Th

/-- One reader behind another. -/
def andThen {α β : Type} (f : Pa α) (g : α → Pa β) : Pa β := fun ts => match f ts with
  | .error q => .error q
  | .ok (a, r) => g a r
def give {α : Type} (a : α) : Pa α := fun ts => .ok (a, ts)
def exp (s : Bs) : Pa Unit := fun ts => if txt ts = s then .ok ((), ts.tail) else .error ts
def nameP : Pa Bs := fun ts => if knd ts = 1 then .ok (txt ts, ts.tail) else .error ts
/-- The expression that begins the tokens. -/
def exprA : Pa E := fun ts => exprP (unaryF (ts.length + 1)) ts

/-- The kind of the declarations that a word begins; 0 if none. -/
def declKind (l : Bs) : Nat :=
  if l = [118, 97, 114] then 1 else if l = [118, 111, 108, 97, 116, 105, 108, 101] then 2 else if l = [109, 117, 116, 101, 120] then 3 else if l = [114, 119, 108, 111, 99, 107] then 4
  else if l = [99, 111, 110, 100] then 5 else if l = [102, 117, 116, 117, 114, 101] then 6 else 0
def sizeP : Pa Nat := fun ts => if txt ts = [91] then andThen (number 1) (fun n => andThen (exp [93]) fun _ => give n) ts.tail else .ok (0, ts)
def initP : Pa Int := fun ts =>
  if txt ts = [61] then
    if txt ts.tail = [45] then andThen (number 0) (fun n => give (-(n : Int))) ts.tail.tail
    else andThen (number 0) (fun n => give (n : Int)) ts.tail
  else .ok (0, ts)
/-- What stands between a declaration's name and its semicolon. -/
def declRest (k line : Nat) (nm : Bs) : Pa Dc :=
  if k = 1 then andThen sizeP fun sz => andThen initP fun i => give ⟨k, line, nm, sz, i, []⟩
  else if k = 2 then andThen initP fun i => give ⟨k, line, nm, 0, i, []⟩
  else if k = 5 then andThen nameP fun on => give ⟨k, line, nm, 0, 0, on⟩
  else give ⟨k, line, nm, 0, 0, []⟩
/-- The line of the next token; 0 if there is none. -/
def lineOf : List T → Nat
  | [] => 0
  | t :: _ => t.2.2
def declP : Pa Dc := fun ts => andThen nameP (fun nm => andThen (declRest (declKind (txt ts)) (lineOf ts) nm) fun d => andThen (exp [59]) fun _ => give d) ts.tail

/-- The statements up to a closing brace. -/
def stmtsL (stmt : Pa Sm) : Nat → List Sm → Pa (List Sm)
  | 0, _, ts => .error ts
  | n + 1, acc, ts => if txt ts = [125] then .ok (acc, ts.tail) else match stmt ts with
    | .error q => .error q
    | .ok (s, r) => stmtsL stmt n (acc ++ [s]) r
def blockP (stmt : Pa Sm) : Pa (List Sm) := andThen (exp [123]) fun _ => fun ts => stmtsL stmt (ts.length + 1) [] ts
def zeroE : E := .mk 0 0 ⟨#[]⟩ []
def assignP : Pa Sm := fun ts => andThen nameP (fun nm => andThen (index exprA) fun ix => andThen (exp [61]) fun _ => andThen exprA fun e => andThen (exp [59]) fun _ => give (.mk 1 (lineOf ts) nm [] ix e [] [])) ts
def choiceP (stmt : Pa Sm) (op line : Nat) : Pa Sm := andThen exprA fun e => andThen (blockP stmt) fun b => fun ts =>
  if txt ts = [101, 108, 115, 101] then andThen (blockP stmt) (fun c => give (.mk op line [] [] [] e b c)) ts.tail else .ok (.mk op line [] [] [] e b [], ts)
def loopP (stmt : Pa Sm) (op line : Nat) : Pa Sm := andThen exprA fun e => andThen (blockP stmt) fun b => give (.mk op line [] [] [] e b [])
def namedP (stmt : Pa Sm) (op line : Nat) : Pa Sm := andThen nameP fun nm => andThen (blockP stmt) fun b => give (.mk op line nm [] [] zeroE b [])
def plainP (stmt : Pa Sm) (op line : Nat) : Pa Sm := andThen (blockP stmt) fun b => give (.mk op line [] [] [] zeroE b [])
def onlyP (op line : Nat) : Pa Sm := andThen nameP fun nm => andThen (exp [59]) fun _ => give (.mk op line nm [] [] zeroE [] [])
def setP (op line : Nat) : Pa Sm := andThen nameP fun nm => andThen exprA fun e => andThen (exp [59]) fun _ => give (.mk op line nm [] [] e [] [])
def getP (op line : Nat) : Pa Sm := andThen nameP fun nm => andThen nameP fun a => andThen (exp [59]) fun _ => give (.mk op line nm a [] zeroE [] [])
/-- The kind of the statements that a word begins; 0 if none. -/
def stmtKind (l : Bs) : Nat :=
  if l = [105, 102] then 2 else if l = [119, 104, 105, 108, 101] then 3 else if l = [108, 111, 99, 107] then 4 else if l = [114, 101, 97, 100] then 5 else if l = [119, 114, 105, 116, 101] then 6
  else if l = [116, 114, 97, 110, 115, 97, 99, 116, 105, 111, 110] then 7 else if l = [97, 116, 111, 109, 105, 99] then 8 else if l = [119, 97, 105, 116] then 9 else if l = [110, 111, 116, 105, 102, 121] then 10
  else if l = [110, 111, 116, 105, 102, 121, 97, 108, 108] then 11 else if l = [115, 112, 97, 119, 110] then 12 else if l = [106, 111, 105, 110] then 13 else if l = [115, 101, 116] then 14 else if l = [103, 101, 116] then 15 else 0
/-- What follows the word of a statement. -/
def restP (stmt : Pa Sm) (k line : Nat) : Pa Sm :=
  if k = 2 then choiceP stmt k line else if k = 3 then loopP stmt k line else if k = 4 ∨ k = 5 ∨ k = 6 then namedP stmt k line
  else if k = 7 ∨ k = 8 then plainP stmt k line else if k = 14 then setP k line else if k = 15 then getP k line else onlyP k line
def stmtStep (stmt : Pa Sm) : Pa Sm := fun ts =>
  if knd ts = 1 then assignP ts
  else if stmtKind (txt ts) = 0 then .error ts
  else restP stmt (stmtKind (txt ts)) (lineOf ts) ts.tail
def stmtF : Nat → Pa Sm
  | 0 => fun ts => .error ts
  | n + 1 => stmtStep (stmtF n)

/-- The names behind commas. -/
def namesL : Nat → List Bs → Pa (List Bs)
  | 0, acc, ts => .ok (acc, ts)
  | n + 1, acc, ts => if txt ts = [44] then match nameP ts.tail with
      | .error q => .error q
      | .ok (nm, r) => namesL n (acc ++ [nm]) r
    else .ok (acc, ts)
def localsP : Pa (List Bs) := andThen (exp [40]) fun _ => fun ts =>
  if txt ts = [41] then .ok ([], ts.tail)
  else andThen nameP (fun nm => andThen (fun ts => namesL ts.length [nm] ts) fun l => andThen (exp [41]) fun _ => give l) ts
def threadP (n : Nat) : Pa Th := fun ts => andThen (exp [116, 104, 114, 101, 97, 100]) (fun _ => andThen nameP fun nm => andThen localsP fun l => andThen (blockP (stmtF n)) fun b => give ⟨nm, lineOf ts, l, b⟩) ts
def declsL : Nat → List Dc → Pa (List Dc)
  | 0, acc, ts => .ok (acc, ts)
  | n + 1, acc, ts => if declKind (txt ts) = 0 then .ok (acc, ts) else match declP ts with
    | .error q => .error q
    | .ok (d, r) => declsL n (acc ++ [d]) r
def threadsL (m : Nat) : Nat → List Th → Pa (List Th)
  | 0, acc, ts => .ok (acc, ts)
  | n + 1, acc, ts => if txt ts = [116, 104, 114, 101, 97, 100] then match threadP m ts with
      | .error q => .error q
      | .ok (t, r) => threadsL m n (acc ++ [t]) r
    else .ok (acc, ts)
def progP (m : Nat) : Pa Pg := andThen (fun ts => declsL ts.length [] ts) fun ds => andThen (threadP m) fun t => andThen (fun ts => threadsL m ts.length [t] ts) fun l => give ⟨ds, l⟩
end Go.Proofs.YtncflfadgcaldaaGreatDoor.Par
