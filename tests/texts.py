"""Texts of programs that are right, and how each is made wrong by something a little less or more."""


def rows(text):
    """The text without the blanks ahead of its rows."""
    return "\n".join(row.strip() for row in text.strip().split("\n"))


RIGHT = {
    # The greatest number is looked for, and where it stands.
    "greatest": rows("""
        row a place g i number c
        first ahead i end
        begin i
        set c a.i
        stand g i
        go i
        while ahead i end
        kept and ( ahead g end same a.g c each x if ahead x i most a.x c )
        if less c a.i
        set c a.i
        stand g i
        else
        end
        go i
        end
        last and ( same a.g c each x most a.x c )
    """),
    "fill": rows("""
        row a place i number c
        first and ( )
        begin i
        while ahead i end
        kept each x if ahead x i same a.x c
        put a i c
        go i
        end
        last each x same a.x c
    """),
    "take over": rows("""
        row a b place i number
        first and ( )
        begin i
        while ahead i end
        kept each x if ahead x i same a.x b.x
        put a i b.i
        go i
        end
        last each x same a.x b.x
    """),
    "exchange": rows("""
        row a b place i j number c
        first and ( each x same a.x b.x ahead i end ahead j end )
        set c a.i
        put a i a.j
        put a j c
        last and ( same a.i b.j same a.j b.i each x or ( here x i here x j same a.x b.x ) )
    """),
    "exchange by swap": rows("""
        row a b place i j number
        first and ( each x same a.x b.x ahead i end ahead j end )
        swap a i j
        last and ( same a.i b.j same a.j b.i each x or ( here x i here x j same a.x b.x ) )
    """),
    "there and back": rows("""
        row a b place i j number
        first each x same a.x b.x
        swap a i j
        swap a j i
        last each x same a.x b.x
    """),
    # Each number put down is above those ahead of it.
    "rise": rows("""
        row a place i number c
        first and ( )
        begin i
        set c 1
        while ahead i end
        kept and ( each x if ahead x i less a.x c pairs x y if ahead y i less a.x a.y )
        put a i c
        set c c+1
        go i
        end
        last nexts a less
    """),
    # Whether neighbours rise is found out: d is 1 then.
    "do they rise": rows("""
        row a place i number c d
        first and ( )
        begin i
        set d 1
        set c a.i
        while ahead i end
        kept if same d 1 and ( pairs x y if ahead y i most a.x a.y each x if ahead x i most a.x c )
        if less a.i c
        set d 0
        else
        end
        set c a.i
        go i
        end
        last if same d 1 nexts a most
    """),
    "find": rows("""
        row a place i number c
        first and ( )
        begin i
        while and ( ahead i end unlike a.i c )
        kept each x if ahead x i unlike a.x c
        go i
        end
        last or ( and ( ahead i end same a.i c each x if ahead x i unlike a.x c ) and ( here i end each x unlike a.x c ) )
    """),
    "sort": rows("""
        row a place i j number
        first and ( )
        begin i
        while ahead i end
        kept pairs x y if ahead x i most a.x a.y
        stand j i
        while ahead j end
        kept and ( ahead i end not ahead j i pairs x y if ahead x i most a.x a.y each x if and ( ahead x j not ahead x i ) most a.i a.x )
        if less a.j a.i
        swap a i j
        else
        end
        go j
        end
        go i
        end
        last nexts a most
    """),
    # The greatest number is carried along, neighbour by neighbour.
    "carry along": rows("""
        row a place i j number
        first ahead i end
        begin i
        stand j i
        go j
        while ahead j end
        kept and ( ahead i end next i j each x if ahead x i most a.x a.i )
        if less a.j a.i
        swap a j i
        else
        end
        stand i j
        go j
        end
        last each x most a.x a.i
    """),
    "two whiles": rows("""
        row a place i number c
        first most 0 c
        begin i
        while and ( ahead i end less a.i 0 )
        kept and ( most 0 c each x if ahead x i most 0 a.x )
        put a i c
        go i
        end
        while ahead i end
        kept and ( most 0 c each x if ahead x i most 0 a.x )
        if less a.i 0
        put a i 0
        else
        end
        go i
        end
        last each x most 0 a.x
    """),
    "no deeds": rows("""
        row a place number
        first nexts a less
        last pairs x y unlike a.x a.y
    """),
}

# Of a right program: what stands in it, what comes in its stead, and the first leg that isn't right then.
WRONG = (
    ("greatest", "if less c a.i", "if less a.i c", ((0, True), (False,), 0)),
    ("greatest", "first ahead i end", "first and ( )", (None, (), 0)),
    ("greatest", "set c a.i\nstand g i\nelse", "set c a.i\nelse", ((0, True), (True,), 0)),
    ("greatest", "go i\nend\nlast", "go i\ngo i\nend\nlast", ((0, True), (False,), 0)),
    ("greatest", "each x most a.x c )", "each x less a.x c )", ((0, False), (), None)),
    ("fill", "put a i c\n", "", ((0, True), (), 0)),
    ("fill", "put a i c", "put a i c+1", ((0, True), (), 0)),
    ("fill", "begin i\n", "", (None, (), 0)),
    ("fill", "while ahead i end", "while and ( ahead i end unlike a.i 0 )", ((0, False), (), None)),
    ("fill", "go i\n", "go i\nput a i 0\ngo i\n", ((0, True), (), 0)),
    ("take over", "put a i b.i", "put b i a.end", ((0, True), (), 0)),
    ("take over", "last each x same a.x b.x", "last each x same a.x b.x+1", ((0, False), (), None)),
    ("exchange", "set c a.i\nput a i a.j", "put a i a.j\nset c a.i", (None, (), None)),
    ("exchange", "ahead i end ahead j end", "ahead i end", (None, (), None)),
    ("exchange by swap", "swap a i j", "swap a j j", (None, (), None)),
    ("exchange by swap", "swap a i j\n", "swap a i j\nswap a i j\n", (None, (), None)),
    ("exchange by swap", "ahead i end ahead j end", "ahead i end", (None, (), None)),
    ("there and back", "swap a j i\n", "", (None, (), None)),
    ("rise", "set c c+1\n", "", ((0, True), (), 0)),
    ("rise", "put a i c", "put a i c-1", ((0, True), (), 0)),
    ("do they rise", "set d 0\n", "", ((0, True), (True,), 0)),
    ("do they rise", "if less a.i c", "if less c a.i", ((0, True), (False,), 0)),
    ("do they rise", "last if same d 1 nexts a most", "last if same d 1 nexts a less", ((0, False), (), None)),
    ("do they rise", "set d 1", "set d 0", None),
    ("find", "unlike a.i c )\nkept", "less a.i c )\nkept", ((0, False), (), None)),
    ("find", "go i\n", "go i\ngo i\n", ((0, True), (), 0)),
    ("find", "begin i\n", "go i\n", (None, (), 0)),
    ("sort", "less a.j a.i", "less a.i a.j", ((1, True), (False,), 1)),
    ("sort", "not ahead j i ", "", ((1, True), (True,), 1)),
    ("sort", "swap a i j\n", "", ((1, True), (True,), 1)),
    ("sort", "last nexts a most", "last nexts a less", ((0, False), (), None)),
    ("sort", "begin i\n", "begin i\ngo i\n", (None, (), 0)),
    ("carry along", "stand i j\n", "", ((0, True), (False,), 0)),
    ("carry along", "swap a j i\n", "", ((0, True), (True,), 0)),
    ("two whiles", "first most 0 c", "first most -1 c", (None, (), 0)),
    ("two whiles", "put a i c", "put a i c-1", ((0, True), (), 0)),
    ("two whiles", "put a i 0", "put a i -1", ((1, True), (True,), 1)),
    ("no deeds", "unlike a.x a.y", "less a.x a.y-1", (None, (), None)),
)
