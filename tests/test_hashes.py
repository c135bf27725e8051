"""Stage 3: hashes and check sums."""

from deedline.base import hashes
from deedline.base.hashes import bucket_spots, hash_of, reversed_bits, spot_of, sum_of
from deedline.errors import InvalidNumber, InvalidText
from tests.helpers import SIGNS, Case, chance, not_integers, not_texts, values


def turned(value, bits):
    return int(format(value, "0%db" % bits)[::-1], 2) if bits else 0


def plain_hash(text):
    return sum(ord(sign) * 33 ** (len(text) - 1 - at) for at, sign in enumerate(text)) % 65536


def is_plain_count(value):
    return type(value) is int and value >= 0


class Hashes(Case):
    def test_constants(self):
        self.assertEqual((hashes.HASH_BITS, hashes.SUM_MODULUS), (16, 99991))

    def test_hashes(self):
        pick = chance(2)
        texts = ["", "a", "ab", "~" * 200, SIGNS, "0", " "]
        texts += ["".join(pick.choices(SIGNS, k=pick.randrange(201))) for _ in range(200)]
        for text in texts:
            self.assertEqual(hash_of(text), plain_hash(text))
            self.assertEqual(spot_of(text), turned(plain_hash(text), 16))
        self.assertEqual(hash_of("ac"), hash_of("bB"))

    def test_refused_texts(self):
        for value in not_texts():
            self.refused(InvalidText, value, hash_of, value)
            self.refused(InvalidText, value, spot_of, value)

    def test_reversed_bits(self):
        for bits in range(0, 11):
            for value in range(2 ** bits):
                self.assertEqual(reversed_bits(value, bits), turned(value, bits))
        pick = chance(3)
        for bits in range(1, 65):
            value = pick.getrandbits(bits)
            self.assertEqual(reversed_bits(value, bits), turned(value, bits))
            self.assertEqual(reversed_bits(1, bits), 2 ** (bits - 1))
            self.assertEqual(reversed_bits(2 ** bits - 1, bits), 2 ** bits - 1)
        self.assertEqual(reversed_bits(0, 0), 0)

    def test_refused_bits(self):
        for value in values():
            if not is_plain_count(value):
                for bits in (16, 65, None):
                    self.refused(InvalidNumber, value, reversed_bits, value, bits)
                    self.refused(InvalidNumber, value, bucket_spots, value, bits)
        for value in not_integers(0, 64):
            self.refused(InvalidNumber, value, reversed_bits, 0, value)
            self.refused(InvalidNumber, value, reversed_bits, 10 ** 39, value)
        for value in not_integers(0, 16):
            self.refused(InvalidNumber, value, bucket_spots, 0, value)
            self.refused(InvalidNumber, value, bucket_spots, 10 ** 39, value)
        self.refused(InvalidNumber, 17, bucket_spots, 0, 17)
        self.refused(InvalidNumber, 65, reversed_bits, 0, 65)
        for bits in range(0, 65):
            self.refused(InvalidNumber, 2 ** bits, reversed_bits, 2 ** bits, bits)
            self.refused(InvalidNumber, 10 ** 39, reversed_bits, 10 ** 39, bits)
        for bits in range(0, 17):
            self.refused(InvalidNumber, 2 ** bits, bucket_spots, 2 ** bits, bits)

    def test_the_spots_of_a_bucket(self):
        self.assertEqual(bucket_spots(0, 0), (0, 65535))
        for bits in (0, 1, 2, 3, 7, 15, 16):
            rows = {}
            for code in range(65536):
                rows.setdefault(code % 2 ** bits, []).append(turned(code, 16))
            for bucket in rows:
                first, last = bucket_spots(bucket, bits)
                self.assertEqual(sorted(rows[bucket]), list(range(first, last + 1)))

    def test_the_halves_of_a_bucket(self):
        for bits in range(0, 16):
            for bucket in range(min(2 ** bits, 64)):
                first, last = bucket_spots(bucket, bits)
                middle = (first + last) // 2
                self.assertEqual(bucket_spots(bucket, bits + 1), (first, middle))
                self.assertEqual(bucket_spots(bucket + 2 ** bits, bits + 1), (middle + 1, last))


class Sums(Case):
    def test_sums(self):
        self.assertEqual(sum_of(""), 0)
        self.assertEqual(sum_of("a"), 97)
        self.assertEqual(sum_of("\n"), 10)
        self.assertEqual(sum_of("a\nb"), 97 + 2 * 10 + 3 * 98)
        pick = chance(4)
        for size in (5, 199, 201, 5000, 100001):
            signs = "".join(pick.choices(SIGNS + "\n", k=size))
            total = 0
            for at in range(size):
                total += (at + 1) * ord(signs[at])
            self.assertEqual(sum_of(signs), total % 99991)

    def test_a_change_is_told(self):
        pick = chance(5)
        for _ in range(300):
            signs = pick.choices(SIGNS + "\n", k=pick.randrange(2, 300))
            one, other = pick.sample(range(len(signs)), 2)
            changed, exchanged = list(signs), list(signs)
            changed[one] = pick.choice([sign for sign in SIGNS if sign != signs[one]])
            exchanged[one], exchanged[other] = signs[other], signs[one]
            self.assertNotEqual(sum_of("".join(signs)), sum_of("".join(changed)))
            if signs[one] != signs[other]:
                self.assertNotEqual(sum_of("".join(signs)), sum_of("".join(exchanged)))

    def test_refused(self):
        for value in [*values(), "a\t", "\r", "\x7f", "\x1f", "\u00e9", "a" * 300 + "\x00"]:
            if type(value) is str and all(sign in SIGNS + "\n" for sign in value):
                sum_of(value)
            else:
                self.refused(InvalidText, value, sum_of, value)
