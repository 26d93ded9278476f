"""Things of all kinds that the document's "of anything" speaks of, none of them a frame or a shape."""

SIXTY = 10 ** 60 - 1


def nested(depth):
    """A tuple within a tuple, so many times over."""
    thing = ()
    for step in range(depth):
        thing = (thing,)
    return thing


def odd_things():
    """Made anew at each call, so that a test may look whether they were changed."""
    return [
        0, 1, -1, 4, SIXTY, -SIXTY,
        True, False, None,
        "", "a", "abcd", "(8, 4, 2, 1)", " ~",
        [], [[]], [1, 2, 3, 4], [[1, 2], [3, 4]], [(1, 2), (3, 4)],
        (), ((),), ((), ()), ((), (), (), ()), (None,), (None, None, None, None),
        ("8", "4", "2", "1"), ("a", "b"), ("abcd",), ([],), ([], [], [], []),
        ((8, 4, 2, 1), (8, 4, 2, 16)), ((8,), (4,), (2,), 1),
        (8, 4, 2, (1,)), (8, 4, 2, [1]), (8, 4, 2, None), (8, 4, 2, "1"),
        (SIXTY, SIXTY, SIXTY, SIXTY), (-SIXTY, -SIXTY, -SIXTY, -SIXTY),
        ((SIXTY,),), ((-SIXTY,),), ((1, "2"),), ((1, None),), ((1, (2,)),), ((1, [2]),),
        (((1, 2), (3, 4)),), ((((8, 4, 2, 1),),),), nested(5), nested(5000),
    ]
