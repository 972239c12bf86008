"""Programs for the tests of all roads: a text, how many bodies of functions it enters, its prints and its end."""

TOP, LOW = 2 ** 31 - 1, -2 ** 31


def number(n):
    return ("value", ("int", n))


def flag(b):
    return ("value", ("bool", b))


def other(name):
    return ("value", (name,))


def blame(n, side):
    return ("blame", n, side)


# Points PL1 and PL2: each form, without casts.
FORMS = [
    ("0", 0, (), number(0)),
    ("2147483647", 0, (), number(TOP)),
    ("true", 0, (), flag(True)),
    ("false", 0, (), flag(False)),
    ("unit", 0, (), other("unit")),
    ("fun x => x", 0, (), other("fun")),
    ("rec h (x : int) : int => h x", 0, (), other("fun")),
    ("(1, true)", 0, (), other("pair")),
    ("box 1", 0, (), other("box")),
    ("fst (1, true)", 0, (), number(1)),
    ("snd (1, true)", 0, (), flag(True)),
    ("fst snd (1, (2, 3))", 0, (), number(2)),
    ("snd fst ((1, 2), 3)", 0, (), number(2)),
    ("get box 5", 0, (), number(5)),
    ("put (box 5) 6", 0, (), other("unit")),
    ("not true", 0, (), flag(False)),
    ("not false", 0, (), flag(True)),
    ("let x = 4 in x", 0, (), number(4)),
    ("if true then 1 else 2", 0, (), number(1)),
    ("if false then 1 else 2", 0, (), number(2)),
    ("print 7 ; true", 0, (7,), flag(True)),
    ("(3 : int)", 0, (), number(3)),
    ("(fun x : int => x + 1) 4", 1, (), number(5)),
    ("(rec h (x : int) : int => x + 1) 4", 1, (), number(5)),
    ("(fun f : int -> int => f (f 1)) (fun x : int => x + x)", 3, (), number(4)),
    ("(fun x : int => fun y : int => x - y) 5 3", 2, (), number(2)),
    ("(fun x : unit => 8) unit", 1, (), number(8)),
]

NUMBERS = [
    ("1 + 2", 0, (), number(3)),
    ("2 - 5", 0, (), number(-3)),
    ("6 * 7", 0, (), number(42)),
    ("2147483647 + 0", 0, (), number(TOP)),
    ("2147483647 + 1", 0, (), number(LOW)),
    ("2147483647 + 2147483647", 0, (), number(-2)),
    ("0 - 2147483647 - 1", 0, (), number(LOW)),
    ("0 - 2147483647 - 2", 0, (), number(TOP)),
    ("0 - 2147483647 - 2147483647 - 2", 0, (), number(0)),
    ("(0 - 2147483647 - 1) + (0 - 2147483647 - 1)", 0, (), number(0)),
    ("(0 - 2147483647 - 1) + (0 - 1)", 0, (), number(TOP)),
    ("0 - (0 - 2147483647 - 1)", 0, (), number(LOW)),
    ("(0 - 2147483647 - 1) * (0 - 1)", 0, (), number(LOW)),
    ("65536 * 32768", 0, (), number(LOW)),
    ("65536 * 65536", 0, (), number(0)),
    ("65536 * 65537", 0, (), number(65536)),
    ("46341 * 46341", 0, (), number(-2147479015)),
    ("2147483647 * 2147483647", 0, (), number(1)),
    ("2147483647 * (0 - 2147483647)", 0, (), number(-1)),
    ("2147483647 * 2", 0, (), number(-2)),
    ("(0 - 2147483647 - 1) * (0 - 2147483647 - 1)", 0, (), number(0)),
    ("(0 - 7) * 3", 0, (), number(-21)),
    ("1 < 2", 0, (), flag(True)),
    ("2 < 2", 0, (), flag(False)),
    ("3 < 2", 0, (), flag(False)),
    ("2147483647 + 1 < 0", 0, (), flag(True)),
    ("0 - 1 < 0", 0, (), flag(True)),
    ("2 == 2", 0, (), flag(True)),
    ("2 == 3", 0, (), flag(False)),
    ("2147483647 + 1 == 0 - 2147483647 - 1", 0, (), flag(True)),
    ("65536 * 65536 == 0", 0, (), flag(True)),
]

# The order of evaluation, as the prints show it.
ORDER = [
    ("(print 1 ; fun x : int => print 3 ; x) (print 2 ; 5)", 1, (1, 2, 3), number(5)),
    ("fst (print 1 ; 5, print 2 ; 6)", 0, (1, 2), number(5)),
    ("(print 1 ; 7) - (print 2 ; 4)", 0, (1, 2), number(3)),
    ("(print 1 ; 7) < (print 2 ; 4)", 0, (1, 2), flag(False)),
    ("put (print 1 ; box 3) (print 2 ; 4)", 0, (1, 2), other("unit")),
    ("print (print 1 ; 2) ; print 3 ; 4", 0, (1, 2, 3), number(4)),
    ("let x = print 1 ; 2 in print x ; x + 1", 0, (1, 2), number(3)),
    ("if (print 1 ; true) then print 2 ; 3 else print 4 ; 5", 0, (1, 2), number(3)),
    ("if (print 1 ; false) then print 2 ; 3 else print 4 ; 5", 0, (1, 4), number(5)),
    ("get (print 1 ; box (print 2 ; 3))", 0, (1, 2), number(3)),
    ("not (print 1 ; false)", 0, (1,), flag(True)),
    ("snd (print 1 ; (2, 3))", 0, (1,), number(3)),
    ("fun x => print 1 ; x", 0, (), other("fun")),
    ("let f = (fun x : int => print x ; x) in (f 1, f 2)", 2, (1, 2), other("pair")),
    ("let b = box 1 in (print get b ; put b 2, print get b ; put b 3)", 0, (1, 2), other("pair")),
    ("((print 1 ; fun x : int => fun y : int => x) (print 2 ; 3)) (print 4 ; 5)", 2, (1, 2, 4), number(3)),
]

# Names that hide others, functions that keep the names around them, and boxes that are shared.
NAMES = [
    ("let x = 1 in let x = x + 1 in x", 0, (), number(2)),
    ("let x = 1 in (let x = 2 in x) + x", 0, (), number(3)),
    ("let x = 1 in let f = fun y : int => x + y in let x = 10 in f x", 1, (), number(11)),
    ("(fun x : int => (fun x : int => x) 2 + x) 1", 2, (), number(3)),
    ("let x = 3 in (fun x : int => x) 4 * x", 1, (), number(12)),
    ("let h = 5 in (rec h (n : int) : int => if n < 1 then n else h (n - 1)) h", 6, (), number(0)),
    ("(rec x (x : int) : int => x + 1) 6", 1, (), number(7)),
    ("(rec h (h : int) : int => if h < 3 then h * 2 else h) 2", 1, (), number(4)),
    ("let f = rec f (n : int) : int => if n < 1 then 9 else f (n - 1) in f 2", 3, (), number(9)),
    ("let b = box 1 in let c = b in let u = put c 5 in get b", 0, (), number(5)),
    ("let b = box 1 in let p = (b, b) in let u = put (fst p) 2 in get (snd p)", 0, (), number(2)),
    ("let b = box 1 in let c = box 1 in let u = put c 5 in get b", 0, (), number(1)),
    ("let f = fun u : unit => box 1 in let b = f unit in let v = put b 2 in get (f unit)", 2, (), number(1)),
    ("let b = box (box 1) in let u = put (get b) 4 in get get b", 0, (), number(4)),
    ("let c = box 0 in let f = fun u : unit => put c (get c + 1) in let x = f unit in let y = f unit in get c",
     2, (), number(2)),
    ("(fun b : box int => let u = put b 3 in get b) (box 1)", 1, (), number(3)),
]

# Loops: the number of calls is that of the bodies that are entered.
LOOPS = [
    ("(rec h (n : int) : int => if n < 1 then 0 else h (n - 1)) 3", 4, (), number(0)),
    ("(rec h (n : int) : int => if n < 1 then 0 else n + h (n - 1)) 4", 5, (), number(10)),
    ("(rec h (n : int) : int => print n ; if n == 3 then n else h (n + 1)) 0", 4, (0, 1, 2, 3), number(3)),
    ("(rec h (n : int) : int => if n < 2 then n else h (n - 1) + h (n - 2)) 6", 25, (), number(8)),
    ("(rec h (n : int) : int -> int => fun a : int => if n < 1 then a else h (n - 1) (a + n)) 3 0", 8, (), number(6)),
    ("(rec h (n : int) : any => if n < 1 then (7 : any) else (h (n - 1) : int)) 3", 4, (), number(7)),
    ("(rec h (n : any) : any => if n < 1 then n else h (n - 1)) 3", 4, (), number(0)),
    ("let b = box (fun x : int => x) in let f = fun n : int => if n < 1 then 5 else (get b) (n - 1) in "
     "let u = put b f in f 2", 3, (), number(5)),
]

# Loops in tail places, with casts around the calls; {} is how many rounds there are.
TAIL_LOOPS = [
    "(rec h (n : int) : any => if n < 1 then (7 : any) else (h (n - 1) : int)) {}",
    "(rec h (n : int) : int => if n < 1 then 7 else h (n - 1)) {}",
    "(rec h (n : any) : any => if n < 1 then n else h (n - 1)) {}",
    "(rec h (n : int) : any => if n < 1 then n else (let m = n - 1 in (print m ; ((h m : int) : any)) : int)) {}",
    "(rec h (n : int) : int -> int => if n < 1 then (fun x : int => x) else (h (n - 1) : any -> int)) {}",
    "(rec h (n : int) : (int, any) => if n < 1 then (n, 1) else (h (n - 1) : (any, int))) {}",
    "(rec h (n : int) : box int => if n < 1 then box n else ((h (n - 1) : box any) : any)) {}",
    "let f = ((rec h (n : int) : any => if n < 1 then n else h (n - 1)) : int -> int) in f {}",
    "let b = box (fun n => n) in let f = fun n => if n < 1 then n else ((get b : any -> int) (n - 1) : any) in "
    "let u = put b f in f {}",
    "(rec h (n : int) : any -> any => fun f => if n < 1 then f else h (n - 1) (f : int -> int)) {} (fun x => x)",
]

# Points PL3 and PL4: functions, pairs and boxes that are wrapped, once and more often.
WRAPPED = [
    ("let f = fun x => x + 1 in print f 4 ; f (true : any)", 2, (5,), blame(3, 1)),
    ("((fun x : int => x) : any) true", 0, (), blame(2, 0)),
    ("((fun x : int => x) : any) 4", 1, (), number(4)),
    ("((fun x => (true : any)) : any -> int) 1", 1, (), blame(2, 1)),
    ("((fun x => x) : int -> int) 3", 1, (), number(3)),
    ("((fun x => x) : int -> int)", 0, (), other("fun")),
    ("(((fun x => x) : int -> int) : any)", 0, (), other("fun")),
    ("((((fun x : int => x + 1) : int -> any) : any -> any) : any -> int) 1", 1, (), number(2)),
    ("((((fun x : int => x + 1) : int -> any) : any -> any) : any -> int) true", 0, (), blame(3, 0)),
    ("(((fun x : int => (x : any)) : int -> any) : int -> bool) 1", 1, (), blame(2, 1)),
    ("((((fun x => x) : any -> int) : any -> any) : any -> bool) 1", 1, (), blame(2, 1)),
    ("((((fun x => x) : any -> int) : any -> any) : any -> bool) true", 1, (), blame(4, 1)),
    ("((fun f : int -> int => f 1) : any) (fun x => x)", 2, (), number(1)),
    ("((fun f : int -> int => f 1) : any) (fun x : bool => x)", 1, (), blame(6, 0)),
    ("((fun f : int -> int => f 1) : any) true", 0, (), blame(2, 0)),
    ("((fun f : int -> int => f 1) : any) (fun x => true)", 2, (), blame(2, 0)),
    ("((fun f => f true) : (int -> int) -> any) (fun x : int => x)", 1, (), blame(2, 1)),
    ("((fun f => f 1) : (int -> int) -> any) (fun x : int => x)", 2, (), number(1)),
    ("fst ((1, true) : any)", 0, (), number(1)),
    ("snd ((1, true) : (any, any))", 0, (), flag(True)),
    ("(fst ((1, true) : any) : bool)", 0, (), blame(1, 1)),
    ("(((1, true) : (any, any)) : (bool, any))", 0, (), other("pair")),
    ("fst (((1, true) : (any, any)) : (bool, any))", 0, (), blame(2, 1)),
    ("snd (((1, true) : (any, any)) : (bool, any))", 0, (), flag(True)),
    ("snd (((1, true) : (any, any)) : (any, unit))", 0, (), blame(2, 1)),
    ("fst ((((1, 2) : (any, any)) : (int, int)) : (any, int))", 0, (), number(1)),
    ("snd ((((1, 2) : (any, any)) : (int, any)) : (any, bool))", 0, (), blame(2, 1)),
    ("(fst (((fun x : int => x), 1) : (any -> any, any))) true", 0, (), blame(3, 0)),
    ("(fst (((fun x => x), 1) : (int -> bool, any))) 5", 1, (), blame(3, 1)),
    ("let b = box (1 : any) in let u = put b 2 in print get b ; b", 0, (2,), other("box")),
    ("get (box 1 : box any)", 0, (), number(1)),
    ("get ((box 1 : box any) : box bool)", 0, (), blame(2, 1)),
    ("put (box 1 : box any) true", 0, (), blame(2, 0)),
    ("let b = box 1 in let c = (b : box any) in let u = put c 2 in get b", 0, (), number(2)),
    ("let b = box (1 : any) in let c = (b : box int) in let u = put c 5 in get b", 0, (), number(5)),
    ("let b = box (1 : any) in let c = (b : box int) in let u = put b true in get c", 0, (), blame(6, 1)),
    ("let b = box (1 : any) in let c = (b : box int) in let d = (c : box any) in put d true", 0, (), blame(9, 0)),
    ("let b = box (1 : any) in let c = ((b : box int) : box any) in let u = put c 8 in (get b, get c)",
     0, (), other("pair")),
    ("let b = (box 1 : any) in let u = put b 7 in get b", 0, (), number(7)),
    ("let b = (box 1 : any) in put b false", 0, (), blame(2, 0)),
    ("(get (box (fun x : int => x) : box (any -> int))) true", 0, (), blame(3, 0)),
    ("put (box (fun x : int => x) : box (any -> any)) (fun x : bool => x)", 0, (), other("unit")),
    ("let b = box (fun x : int => x) in let u = put (b : box (any -> any)) (fun x : bool => x) in (get b) 1",
     0, (), blame(8, 0)),
    ("get get (box (box 1) : box box any)", 0, (), number(1)),
    ("get get ((box (box 1) : box box any) : box box bool)", 0, (), blame(3, 1)),
    ("put (get (box (box 1) : box box any)) true", 0, (), blame(3, 0)),
    ("put ((box (box 1) : box any) : box box bool) (box true)", 0, (), other("unit")),
    ("let b = box (box 1) in let u = put ((b : box any) : box box bool) (box true) in get get b", 0, (), blame(8, 0)),
    ("put (box (box 1) : box any) true", 0, (), blame(2, 0)),
    ("let f = ((rec h (n : int) : int => if n < 1 then n else h (n - 1)) : any -> any) in f 2", 3, (), number(0)),
    ("let f = ((rec h (n : int) : int => if n < 1 then n else h (n - 1)) : any -> any) in f unit", 0, (), blame(2, 0)),
    ("(fun x => if x then 1 else 2) 3", 1, (), blame(3, 1)),
    ("(fun x => not x) unit", 1, (), blame(3, 1)),
    ("(fun x => print x ; 1) true", 1, (), blame(3, 1)),
    ("(fun x => x 1) 2", 1, (), blame(3, 1)),
    ("(fun x => fst x) 2", 1, (), blame(3, 1)),
    ("(fun x => get x) 2", 1, (), blame(3, 1)),
    ("(fun x => put x 2) 2", 1, (), blame(3, 1)),
    ("(fun x => (x : unit)) 2", 1, (), blame(3, 1)),
    ("(fun x => x + 1) (fun y => y)", 1, (), blame(3, 1)),
    ("(fun x => 1 + x) 4", 1, (), number(5)),
    ("print (true : any) ; 1", 0, (), blame(1, 1)),
    ("print 1 ; print (true : any) ; 1", 0, (1,), blame(3, 1)),
]

KINDS = {
    "int": "1", "bool": "true", "unit": "unit", "any -> any": "fun x => x", "(any, any)": "((1 : any), (true : any))",
    "box any": "box (1 : any)", "int -> int": "fun x : int => x", "(int, bool)": "(1, true)", "box int": "box 1",
}
SHAPES = {"int": ("int", 1), "bool": ("bool", True), "unit": ("unit",)}


def through_any():
    """Each kind of value cast to any, and from there to each kind of type."""
    found = []
    for source, text in KINDS.items():
        name = {"->": "fun", ",": "pair", "box": "box"}
        grounds = [name[sign] for sign in name if sign in source]
        ground = grounds[0] if grounds else source
        for target in KINDS:
            ends = [name[sign] for sign in name if sign in target]
            wanted = ends[0] if ends else target
            end = ("value", SHAPES.get(ground, (ground,))) if ground == wanted else blame(1, 1)
            found.append((f"((({text}) : any) : {target})", 0, (), end))
    return found
